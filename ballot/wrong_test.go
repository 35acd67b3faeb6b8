package ballot_test

import (
	"math"
	"math/rand"
	"testing"

	"battledore/api"
	"battledore/ballot"
)

// P16.5: a state without nodes, whatever else it says.
func TestNoNodes(t *testing.T) {
	full := leading(t)
	full.N = 0
	short := full
	short.Votes, short.Next, short.Match = nil, nil, nil
	for _, s := range []ballot.State{{}, {Left: 1}, {Role: ballot.Leader, Log: entries(1, 2), Commit: 2}, full, short} {
		for range 3 {
			next, out := ballot.Tick(s, 5)
			is(t, "Tick", next, s)
			sends(t, "Tick", out)
		}
		for _, cell := range [][]byte{nil, make([]byte, api.MaxSource+1)} {
			next, out, i, e := ballot.Propose(s, 1, 1, cell)
			comes(t, "Propose", e, api.ErrLeader)
			is(t, "Propose", next, s)
			if sends(t, "Propose", out); i != 0 {
				t.Errorf("its index is %d", i)
			}
		}
		for kind := range byte(7) {
			for from := -1; from < 3; from++ {
				for to := -1; to < 3; to++ {
					fails(t, s, ballot.Msg{Kind: kind, From: from, To: to, Term: 9, Index: 1, OK: true}, api.ErrNone)
				}
			}
		}
		for _, i := range []uint64{0, 1, 2, 5, s.Commit, math.MaxUint64} {
			next, e := ballot.Compact(s, i, []byte("data"))
			comes(t, "Compact", e, api.ErrArg)
			is(t, "Compact", next, s)
		}
	}
}

// odd makes numbers of which nothing is promised, and some that are usual.
type odd struct{ *rand.Rand }

func (r odd) number() uint64 {
	switch r.Intn(3) {
	case 0:
		return uint64(r.Intn(5))
	case 1:
		return math.MaxUint64 - uint64(r.Intn(5))
	}
	return r.Uint64() >> r.Intn(64)
}

func (r odd) int() int {
	return int(r.number()) * (1 - 2*r.Intn(2))
}

func (r odd) numbers() []uint64 {
	var l []uint64
	for range r.Intn(9) {
		l = append(l, r.number())
	}
	return l
}

func (r odd) state() ballot.State {
	s := ballot.State{N: 1 + r.Intn(7), Self: r.Intn(2), Wait: r.int(), Term: r.number(), Vote: r.int(), Base: r.number(), BaseTerm: r.number()}
	s.Log, s.Commit, s.Role, s.Lead, s.Left = entries(r.numbers()...), r.number(), byte(r.Intn(4)), r.int(), r.Intn(3)
	s.Votes, s.Next, s.Match = make([]bool, s.N), make([]uint64, s.N), make([]uint64, s.N)
	for i := range s.N {
		s.Votes[i], s.Next[i], s.Match[i] = r.Intn(2) > 0, r.number(), r.number()
	}
	switch r.Intn(8) {
	case 0:
		s.N = r.int()
	case 1:
		s.Self = r.int()
	case 2:
		s.Votes = nil
	case 3:
		s.Next = r.numbers()
	case 4:
		s.Match = r.numbers()
	}
	return s
}

func (r odd) msg(s ballot.State) ballot.Msg {
	m := ballot.Msg{Kind: byte(r.Intn(7)), From: r.Intn(8), To: s.Self, Term: r.number(), Index: r.number(), LogTerm: r.number()}
	m.Commit, m.OK, m.Entries = r.number(), r.Intn(2) > 0, entries(r.numbers()...)
	switch r.Intn(8) {
	case 0, 1, 2:
		m.Term = s.Term
	case 3:
		m.To = r.int()
	case 4:
		m.From = r.int()
	}
	if r.Intn(2) > 0 {
		m.Index = s.Base + uint64(r.Intn(9)) - 4
		m.LogTerm, _ = ballot.TermAt(s, m.Index)
	}
	return m
}

// P1: whatever the state is, and the message, each call ends.
func TestAnyStates(t *testing.T) {
	r := odd{rand.New(rand.NewSource(1))}
	for range 200000 {
		s := r.state()
		m := r.msg(s)
		ballot.Last(s)
		ballot.TermAt(s, r.number())
		ballot.Tick(s, r.int())
		ballot.Propose(s, 1, 1, nil)
		ballot.Compact(s, r.number(), nil)
		ballot.Compact(s, s.Commit, nil)
		next, out, _ := ballot.Receive(s, m, r.int())
		next, more := ballot.Tick(next, r.int())
		for _, m := range append(out, more...) {
			ballot.Decode(ballot.Encode(m))
			ballot.Receive(next, m, 0)
		}
	}
}
