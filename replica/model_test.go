package replica_test

import (
	"bytes"
	"math/rand"
	"strconv"
	"testing"

	"battledore/api"
	"battledore/ballot"
	"battledore/notebook"
	"battledore/replica"
)

// model does what the chapter says, with a disk of which nothing is lost.
type model struct {
	c       replica.Config
	s       ballot.State
	book    *notebook.Book
	applied []api.Entry
	waits   map[uint64][][2]uint64 // of each index the sessions and numbers that wait for it
	out     []ballot.Msg
	replies []replica.Reply
	states  []ballot.State // those that took effect in the last call
}

func modelOf(t *testing.T, c replica.Config, self int) *model {
	t.Helper()
	s, e := ballot.New(c.Nodes, self, c.Wait)
	comes(t, "ballot.New", e, api.OK)
	return &model{c: c, s: s, book: notebook.New(), waits: map[uint64][][2]uint64{}}
}

// begin: it begins anew in a state.
func (m *model) begin(s ballot.State) {
	m.s, m.book = s, notebook.New()
	if s.Base > 0 {
		m.book, _ = notebook.Load(s.Data)
	}
	m.applied, m.out, m.replies, m.waits = nil, nil, nil, map[uint64][][2]uint64{}
}

func (m *model) take(s ballot.State, out []ballot.Msg) {
	m.states = append(m.states, s)
	m.s, m.out = s, append(m.out, out...)
	if s.Base > m.book.Len() {
		m.book, _ = notebook.Load(s.Data)
		m.applied = nil
	}
	for i := m.book.Len() + 1; i <= s.Commit; i++ {
		x := s.Log[i-s.Base-1]
		data, e := m.book.Apply(x)
		m.applied = append(m.applied, x)
		for _, w := range m.waits[i] {
			if w == [2]uint64{x.Session, x.Number} {
				m.replies = append(m.replies, replica.Reply{Session: w[0], Number: w[1], E: e, Data: data})
			} else {
				m.replies = append(m.replies, replica.Reply{Session: w[0], Number: w[1], E: api.ErrLeader})
			}
		}
		delete(m.waits, i)
	}
	if m.book.Len() >= s.Base+uint64(m.c.Every) {
		next, _ := ballot.Compact(s, m.book.Len(), m.book.Save())
		m.take(next, nil)
	}
}

func (m *model) in(msg ballot.Msg, draw int) api.Errno {
	if msg.Kind == ballot.SnapAsk && msg.Index > m.s.Commit {
		if b, e := notebook.Load(msg.Data); e != api.OK || b.Len() != msg.Index {
			return api.ErrForm
		}
	}
	next, out, e := ballot.Receive(m.s, msg, draw)
	m.take(next, out)
	return e
}

func (m *model) ask(session, number uint64, cell []byte) api.Errno {
	if session*number == 0 {
		return api.ErrArg
	}
	data, e := m.book.Ask(session, number)
	if e != api.ErrNone {
		m.replies = append(m.replies, replica.Reply{Session: session, Number: number, E: e, Data: data})
		return api.OK
	}
	next, out, i, e := ballot.Propose(m.s, session, number, cell)
	if e == api.OK {
		m.waits[i] = append(m.waits[i], [2]uint64{session, number})
		m.take(next, out)
	}
	return e
}

// chance makes calls of a node.
type chance struct{ *rand.Rand }

func (r chance) cell() []byte {
	return []byte([]string{"let x = 1", "let x = x + 1", "x", "x +", ""}[r.Intn(5)])
}

// msg: a message to a node, of numbers near to its own. What is committed isn't contradicted.
func (r chance) msg(s ballot.State) ballot.Msg {
	m := ballot.Msg{Kind: byte(1 + r.Intn(5)), From: r.Intn(s.N), To: s.Self, Term: s.Term, OK: r.Intn(4) > 0}
	if r.Intn(5) == 0 {
		m.Term = max(s.Term, 1) + uint64(r.Intn(3)) - 1
	}
	m.Index = s.Base + uint64(r.Intn(len(s.Log)+2))
	m.LogTerm, _ = ballot.TermAt(s, m.Index)
	if r.Intn(6) == 0 {
		m.LogTerm++
	}
	m.Commit = s.Commit + uint64(r.Intn(4))
	for k := range uint64(r.Intn(6)) {
		i := m.Index + 1 + k
		e := api.Entry{Term: max(m.Term, 1), Session: uint64(r.Intn(4)), Number: uint64(r.Intn(9)), Cell: r.cell()}
		if term, known := ballot.TermAt(s, i); known && (i <= s.Commit || r.Intn(4) > 0) {
			e.Term = term
		}
		m.Entries = append(m.Entries, e)
	}
	if m.Kind == ballot.SnapAsk {
		m.Index += uint64(r.Intn(4))
		m.Data = bookOf(int(m.Index), entry(1, 1, 1, "let x = "+strconv.Itoa(r.Intn(9))))
		if r.Intn(5) == 0 {
			m.Data = bookOf(int(m.Index) + 1)
		}
	}
	return m
}

// act: a node and its model do something; what, and their errors.
func (r chance) act(x *replica.Replica, m *model) (string, api.Errno, api.Errno) {
	m.states = nil
	draw := r.Intn(9) - 3
	switch k := r.Intn(10); {
	case k < 2:
		m.take(ballot.Tick(m.s, draw))
		return "Tick", x.Tick(draw), api.OK
	case k < 5 && m.s.Role == ballot.Leader || k == 5:
		session, number, cell := uint64(r.Intn(4)), uint64(r.Intn(9)), r.cell()
		return "Ask", x.Ask(session, number, cell), m.ask(session, number, cell)
	}
	msg := r.msg(m.s)
	return toldMsg(msg), x.In(ballot.Encode(msg), draw), m.in(msg, draw)
}

// same asks that a node has what its model has.
func same(t *testing.T, what string, x *replica.Replica, m *model) {
	t.Helper()
	is(t, what, x, m.s)
	has(t, what, x, m.book.Save(), m.applied...)
	if !x.Up() {
		t.Errorf("%s: it is down", what)
	}
	keeps(t, what, x)
	if t.Failed() {
		t.FailNow()
	}
}

// P19.1 to P19.4: a node does what the model does, whatever comes; when the power fails, it has kept what it had, or a part of what was interrupted.
func TestModel(t *testing.T) {
	made := map[string]int{}
	for seed := range int64(150) {
		r := chance{rand.New(rand.NewSource(seed))}
		c := replica.Config{Nodes: 1 + r.Intn(4), Wait: 2 + r.Intn(4), Every: 1 + r.Intn(12), Most: api.MaxTrack}
		self := r.Intn(c.Nodes)
		x, e := replica.New(c, self)
		comes(t, "New", e, api.OK)
		m := modelOf(t, c, self)
		for range 150 {
			before := m.s
			if r.Intn(8) == 0 {
				x.Disk().Arm(1 + r.Intn(9))
			}
			what, e, want := r.act(x, m)
			if x.Up() && r.Intn(30) > 0 {
				comes(t, what, e, want)
				same(t, what+" to "+told(before), x, m)
				if r.Intn(3) == 0 {
					made["packets"] += len(m.out)
					sends(t, what, x, m.out...)
					m.out = nil
				}
				if r.Intn(3) == 0 {
					made["replies"] += len(m.replies)
					replies(t, what, x, m.replies...)
					m.replies = nil
				}
				continue
			}
			states := []string{told(restarted(m.s))}
			if !x.Up() {
				made["crashes"]++
				isDown(t, what, x)
				comes(t, what, e, api.ErrCrash)
				for _, next := range m.states {
					states = append(states, torn(before, next)...)
					before = next
				}
			}
			cut := r.Intn(300) - 1
			comes(t, "Start", x.Start([]int{cut, cut, cut, cut}), api.OK)
			oneOf(t, "Start after "+what, x, states)
			m.begin(x.State())
			same(t, "Start", x, m)
		}
		made["snapshots"] += int(m.s.Base)
	}
	for _, n := range made {
		if n < 400 {
			t.Errorf("how much of what: %v", made)
		}
	}
}

// P1, P2: whatever bytes come, each call ends, and does the same for another node.
func TestAnyBytes(t *testing.T) {
	r := chance{rand.New(rand.NewSource(1))}
	for range 300 {
		c := replica.Config{Nodes: 1 + r.Intn(3), Wait: 2, Every: 1 + r.Intn(4), Most: 1 + r.Intn(2000)}
		x, y := made(t, c, 0), made(t, c, 0)
		for range 60 {
			b := ballot.Encode(r.msg(x.State()))
			switch r.Intn(4) {
			case 0:
				b[r.Intn(len(b))] ^= byte(1 << r.Intn(8))
			case 1:
				b = b[:r.Intn(len(b))]
			}
			draw, session, number, cell := r.Int()-r.Int(), uint64(r.Intn(3)), r.Uint64()>>r.Intn(64), r.cell()
			var l [2][]api.Errno
			for i, n := range []*replica.Replica{x, y} {
				l[i] = append(l[i], n.In(b, draw), n.Tick(draw), n.Ask(session, number, cell))
				if n.Disk().Arm(int(number % 50)); !n.Up() {
					l[i] = append(l[i], n.Start([]int{int(number % 99), draw}))
				}
			}
			if told(x.State()) != told(y.State()) || !bytes.Equal(x.Book().Save(), y.Book().Save()) {
				t.Fatalf("%s\n%s", told(x.State()), told(y.State()))
			}
			for i, e := range l[0] {
				comes(t, "the same call", l[1][i], e)
			}
			if list(x.Out(), toldPacket) != list(y.Out(), toldPacket) || list(x.Replies(), toldReply) != list(y.Replies(), toldReply) {
				t.Fatal("they send, or answer, something else")
			}
		}
	}
}
