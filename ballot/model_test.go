package ballot_test

import (
	"maps"
	"math/rand"
	"slices"
	"testing"

	"battledore/api"
	"battledore/ballot"
)

// model does what the chapter says, with a log that is a map.
type model struct {
	s    ballot.State // but its Log
	log  map[uint64]api.Entry
	last uint64
	out  []ballot.Msg
}

func modelOf(s ballot.State) *model {
	x := &model{s: ballot.Copy(s), log: map[uint64]api.Entry{}, last: s.Base}
	for _, e := range x.s.Log {
		x.last++
		x.log[x.last] = e
	}
	return x
}

func (x *model) state() ballot.State {
	s := x.s
	s.Log = nil
	for _, i := range slices.Sorted(maps.Keys(x.log)) {
		s.Log = append(s.Log, x.log[i])
	}
	return s
}

func (x *model) known(i uint64) bool {
	_, there := x.log[i]
	return there || i == x.s.Base
}

func (x *model) term(i uint64) uint64 {
	if i == x.s.Base {
		return x.s.BaseTerm
	}
	return x.log[i].Term
}

func (x *model) send(m ballot.Msg) {
	m.From, m.Term = x.s.Self, x.s.Term
	x.out = append(x.out, m)
}

func (x *model) tell(m ballot.Msg, ok bool, i uint64) {
	x.send(ballot.Msg{Kind: ballot.LogTell, To: m.From, OK: ok, Index: i})
}

func (x *model) update(i int) {
	next := x.s.Next[i]
	if next <= x.s.Base {
		x.send(ballot.Msg{Kind: ballot.SnapAsk, To: i, Index: x.s.Base, LogTerm: x.s.BaseTerm, Data: x.s.Data})
		return
	}
	m := ballot.Msg{Kind: ballot.LogAsk, To: i, Index: next - 1, LogTerm: x.term(next - 1), Commit: x.s.Commit}
	for k := next; k <= x.last && k < next+8; k++ {
		m.Entries = append(m.Entries, x.log[k])
	}
	x.send(m)
}

func (x *model) updateAll() {
	for i := range x.s.N {
		if i != x.s.Self {
			x.update(i)
		}
	}
}

// commit: the greatest index that counts is found by counting, not by its place.
func (x *model) commit() {
	best := uint64(0)
	for _, i := range x.s.Match {
		have := 0
		for _, k := range x.s.Match {
			if k >= i {
				have++
			}
		}
		if 2*have > x.s.N {
			best = max(best, i)
		}
	}
	if best > x.s.Commit && x.known(best) && x.term(best) == x.s.Term {
		x.s.Commit = best
	}
}

func (x *model) add(e api.Entry) {
	e.Term = x.s.Term
	x.last++
	x.log[x.last] = e
	x.s.Match[x.s.Self] = x.last
	x.commit()
	x.updateAll()
}

func (x *model) win() {
	votes := 0
	for _, yes := range x.s.Votes {
		if yes {
			votes++
		}
	}
	if x.s.Role == ballot.Candidate && 2*votes > x.s.N {
		x.s.Role, x.s.Lead = ballot.Leader, x.s.Self
		for i := range x.s.N {
			x.s.Next[i], x.s.Match[i] = x.last+1, 0
		}
		x.add(api.Entry{})
	}
}

func (x *model) rest(draw int) {
	x.s.Left = x.s.Wait
	for i := 0; i < draw && i < x.s.Wait; i++ {
		x.s.Left++
	}
}

func (x *model) tick(draw int) {
	if x.s.Role == ballot.Leader {
		x.updateAll()
		return
	}
	if x.s.Left--; x.s.Left > 0 {
		return
	}
	x.s.Term++
	x.s.Vote, x.s.Role, x.s.Lead = x.s.Self, ballot.Candidate, -1
	x.rest(draw)
	for i := range x.s.N {
		x.s.Votes[i] = i == x.s.Self
		if i != x.s.Self {
			x.send(ballot.Msg{Kind: ballot.VoteAsk, To: i, Index: x.last, LogTerm: x.term(x.last)})
		}
	}
	x.win()
}

func (x *model) receive(m ballot.Msg, draw int) api.Errno {
	other := m.From >= 0 && m.From < x.s.N && m.From != x.s.Self
	if m.To != x.s.Self || !other || m.Kind == 0 || m.Kind > 5 {
		return api.ErrArg
	}
	if m.Term > x.s.Term {
		x.s.Term, x.s.Vote, x.s.Role, x.s.Lead = m.Term, -1, ballot.Follower, -1
	}
	equal := m.Term == x.s.Term
	switch {
	case m.Kind == ballot.VoteAsk:
		up := m.LogTerm > x.term(x.last) || m.LogTerm == x.term(x.last) && m.Index >= x.last
		yes := equal && up && (x.s.Vote == -1 || x.s.Vote == m.From)
		if yes {
			x.s.Vote = m.From
			x.rest(draw)
		}
		x.send(ballot.Msg{Kind: ballot.VoteTell, To: m.From, OK: yes})
	case m.Kind == ballot.VoteTell:
		if equal && m.OK && x.s.Role == ballot.Candidate {
			x.s.Votes[m.From] = true
			x.win()
		}
	case m.Kind == ballot.LogTell:
		if equal && x.s.Role == ballot.Leader && m.Index <= x.last {
			x.logTell(m)
		}
	case !equal:
		x.tell(m, false, x.last)
		return api.ErrStale
	case x.s.Role == ballot.Leader:
		return api.ErrState
	default:
		x.s.Role, x.s.Lead = ballot.Follower, m.From
		x.rest(draw)
		if m.Kind == ballot.LogAsk {
			x.logAsk(m)
		} else {
			x.snapAsk(m)
		}
	}
	return api.OK
}

func (x *model) logTell(m ballot.Msg) {
	if !m.OK {
		x.s.Next[m.From] = max(x.s.Match[m.From], min(x.s.Next[m.From]-1, m.Index)) + 1
		x.update(m.From)
	} else if m.Index > x.s.Match[m.From] {
		x.s.Match[m.From] = m.Index
		x.s.Next[m.From] = max(x.s.Next[m.From], m.Index+1)
		x.commit()
	}
}

// logAsk skips entries one by one.
func (x *model) logAsk(m ballot.Msg) {
	early := m.Index < x.s.Base
	for m.Index < x.s.Base && len(m.Entries) > 0 {
		m.Index, m.Entries = m.Index+1, m.Entries[1:]
	}
	if m.Index < x.s.Base {
		x.tell(m, true, m.Index)
		return
	}
	if early {
		m.LogTerm = x.s.BaseTerm
	}
	if !x.known(m.Index) || x.term(m.Index) != m.LogTerm {
		back := uint64(0)
		if m.Index > 0 {
			back = m.Index - 1
		}
		x.tell(m, false, min(x.last, back))
		return
	}
	i := m.Index
	for _, e := range m.Entries {
		if i++; x.known(i) && x.term(i) == e.Term {
			continue
		}
		for ; x.last >= i; x.last-- {
			delete(x.log, x.last)
		}
		x.last = i
		x.log[i] = e
	}
	x.s.Commit = max(x.s.Commit, min(m.Commit, i))
	x.tell(m, true, i)
}

func (x *model) snapAsk(m ballot.Msg) {
	if m.Index > x.s.Commit {
		stay := x.known(m.Index) && x.term(m.Index) == m.LogTerm
		for i := range maps.Clone(x.log) {
			if !stay || i <= m.Index {
				delete(x.log, i)
			}
		}
		if !stay {
			x.last = m.Index
		}
		x.s.Base, x.s.BaseTerm, x.s.Data, x.s.Commit = m.Index, m.LogTerm, m.Data, m.Index
	}
	x.tell(m, true, m.Index)
}

func (x *model) compact(i uint64, data []byte) {
	x.s.BaseTerm = x.term(i)
	for k := x.s.Base; k <= i; k++ {
		delete(x.log, k)
	}
	x.s.Base, x.s.Data = i, data
}

// chance makes calls of a node.
type chance struct{ *rand.Rand }

// msg: a message to a node, of numbers near to its own.
func (r chance) msg(s ballot.State) ballot.Msg {
	near := func(n uint64, less int) uint64 { return max(n, uint64(less)) - uint64(less) + uint64(r.Intn(less+3)) }
	m := ballot.Msg{Kind: byte(1 + r.Intn(5)), From: r.Intn(s.N), To: s.Self, Term: near(s.Term, r.Intn(2)), OK: r.Intn(2) > 0}
	if r.Intn(4) > 0 {
		m.Term = s.Term
	}
	m.Index = near(s.Base+uint64(r.Intn(len(s.Log)+1)), r.Intn(4))
	m.LogTerm, _ = ballot.TermAt(s, m.Index)
	if r.Intn(4) == 0 {
		m.LogTerm = near(m.LogTerm, 1)
	}
	m.Commit = near(s.Commit, 2)
	for k := range uint64(r.Intn(10)) {
		e := api.Entry{Term: s.Term, Session: 2, Number: uint64(r.Intn(9)), Cell: []byte{byte(k)}}
		if term, known := ballot.TermAt(s, m.Index+1+k); known && r.Intn(9) > 0 {
			e.Term = term
		}
		m.Entries = append(m.Entries, e)
	}
	m.Data = []byte{byte(r.Intn(256))}
	return m
}

// step does something to a node, and to the model of what it is.
func (r chance) step(t *testing.T, s ballot.State) ballot.State {
	t.Helper()
	x, before, draw := modelOf(s), told(s), r.Intn(9)-3
	var next ballot.State
	var out []ballot.Msg
	var what string
	e, want := api.OK, api.OK
	switch k := r.Intn(10); {
	case k < 2:
		what = "Tick"
		next, out = ballot.Tick(s, draw)
		x.tick(draw)
	case k == 2 && s.Role == ballot.Leader:
		what = "Propose"
		next, out, _, e = ballot.Propose(s, 3, 4, []byte("c"))
		x.add(api.Entry{Session: 3, Number: 4, Cell: []byte("c")})
	case k == 3 && s.Commit > s.Base && s.Commit <= ballot.Last(s):
		what = "Compact"
		i := s.Base + 1 + uint64(r.Intn(int(s.Commit-s.Base)))
		next, e = ballot.Compact(s, i, []byte("data"))
		x.compact(i, []byte("data"))
	default:
		m := r.msg(s)
		what = toldMsg(m)
		next, out, e = ballot.Receive(s, m, draw)
		want = x.receive(m, draw)
	}
	comes(t, what, e, want)
	is(t, what+" to "+before, next, x.state())
	sends(t, what+" to "+before, out, x.out...)
	if told(s) != before {
		t.Errorf("%s: %s became %s", what, before, told(s))
	}
	if t.Failed() {
		t.FailNow()
	}
	return next
}

// P16.1 to P16.5: a node does what the model does, whatever comes.
func TestModel(t *testing.T) {
	roles := map[byte]int{}
	for seed := range int64(300) {
		r := chance{rand.New(rand.NewSource(seed))}
		n := 1 + r.Intn(api.MaxNodes)
		s := made(t, n, r.Intn(n), 2+r.Intn(4))
		for range 300 {
			s = r.step(t, s)
			roles[s.Role]++
		}
	}
	if len(roles) != 3 || roles[ballot.Leader] < 1000 || roles[ballot.Candidate] < 1000 {
		t.Errorf("how often which role: %v", roles)
	}
}
