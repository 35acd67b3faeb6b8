package ballot_test

import (
	"bytes"
	"math"
	"testing"

	"battledore/api"
	"battledore/ballot"
)

// P16.4: a leader adds an entry, and sends it to all others at once.
func TestPropose(t *testing.T) {
	s, _ := voted(t, with(made(t, 3, 1, 10), func(s *ballot.State) { s.Term = 8 }))
	for i, x := range []api.Entry{
		{Session: 1, Number: 2, Cell: []byte("cell")},
		{},
		{Session: 3},
		{Number: math.MaxUint64, Cell: bytes.Repeat([]byte("c"), api.MaxSource)},
	} {
		x.Term = 9
		want := with(s, func(s *ballot.State) {
			s.Log = append(s.Log, x)
			s.Match[1]++
		})
		next, out, at, e := ballot.Propose(s, x.Session, x.Number, x.Cell)
		comes(t, "Propose", e, api.OK)
		is(t, "Propose", next, want)
		if at != uint64(i)+2 {
			t.Errorf("the index of entry %d is %d", i, at)
		}
		m := ballot.Msg{Kind: ballot.LogAsk, From: 1, To: 0, Term: 9, Entries: next.Log}
		n := m
		n.To = 2
		sends(t, "Propose", out, m, n)
		s = next
	}
}

// P16.4: who doesn't lead, and a cell that is too long, in this order; nothing changes.
func TestWrongPropose(t *testing.T) {
	fits, long := make([]byte, api.MaxSource), make([]byte, api.MaxSource+1)
	for _, s := range some(t) {
		for _, cell := range [][]byte{nil, fits, long, make([]byte, api.MaxRecord+1)} {
			want := api.OK
			if s.Role != ballot.Leader {
				want = api.ErrLeader
			} else if len(cell) > api.MaxSource {
				want = api.ErrLong
			}
			next, out, at, e := ballot.Propose(s, 1, 1, cell)
			comes(t, "Propose", e, want)
			if want != api.OK {
				is(t, "Propose", next, s)
				sends(t, "Propose", out)
				if at != 0 {
					t.Errorf("with %d the index is %d", e, at)
				}
			}
		}
	}
}

// P16.3: what more than half of the nodes have is committed, whichever they are.
func TestCommit(t *testing.T) {
	for n := 2; n <= api.MaxNodes; n++ {
		for self := range n {
			s, _ := voted(t, made(t, n, self, 10))
			for range 5 {
				s, _, _, _ = ballot.Propose(s, 1, 1, nil)
			}
			have := 1
			for k := 1; k < n; k++ {
				var out []ballot.Msg
				m := ballot.Msg{Kind: ballot.LogTell, From: (self + k) % n, To: self, Term: 1, OK: true, Index: uint64(1 + 3*k%5)}
				s, out = got(t, s, m)
				sends(t, "LogTell", out)
				have++
				if want := committed(s); s.Commit != want || (want > 0) != (2*have > n) {
					t.Errorf("%d of %d have it, Commit %d, want %d", have, n, s.Commit, want)
				}
			}
		}
	}
}

// committed: the greatest index that more than half of the nodes have.
func committed(s ballot.State) uint64 {
	for i := ballot.Last(s); i > 0; i-- {
		have := 0
		for _, m := range s.Match {
			if m >= i {
				have++
			}
		}
		if 2*have > s.N {
			return i
		}
	}
	return 0
}

// P16.3: entries of earlier terms are committed only with one of the present term.
func TestCommitOwnTerm(t *testing.T) {
	s, _ := voted(t, with(made(t, 3, 0, 10), func(s *ballot.State) {
		s.Term, s.Base, s.BaseTerm, s.Commit, s.Log = 4, 2, 1, 3, entries(1, 2, 4)
	}))
	for _, c := range []struct{ i, commit uint64 }{{1, 3}, {2, 3}, {4, 3}, {5, 3}, {6, 6}, {6, 6}, {5, 6}} {
		s, _ = got(t, s, ballot.Msg{Kind: ballot.LogTell, From: 2, To: 0, Term: 5, OK: true, Index: c.i})
		if s.Commit != c.commit {
			t.Errorf("with %d: Commit %d, want %d", c.i, s.Commit, c.commit)
		}
	}
}

// P16.4: a snapshot stands for what is committed; the entries behind it stay.
func TestCompact(t *testing.T) {
	for _, role := range []byte{ballot.Follower, ballot.Leader} {
		s := with(made(t, 3, 0, 10), func(s *ballot.State) {
			s.Term, s.Base, s.BaseTerm, s.Data, s.Log, s.Commit = 6, 4, 1, []byte("old"), entries(2, 2, 5, 6), 7
		})
		if role == ballot.Leader {
			s, _ = voted(t, s)
		}
		for i, term := range []uint64{2, 2, 5} {
			want := with(s, func(s *ballot.State) {
				s.Base, s.BaseTerm, s.Data, s.Log = 5+uint64(i), term, []byte("new"), s.Log[i+1:]
			})
			next, e := ballot.Compact(s, 5+uint64(i), []byte("new"))
			comes(t, "Compact", e, api.OK)
			is(t, "Compact", next, want)
			next, e = ballot.Compact(next, 5+uint64(i), nil)
			comes(t, "Compact again", e, api.ErrArg)
			is(t, "Compact again", next, want)
		}
		next, e := ballot.Compact(s, 5, []byte("new"))
		comes(t, "Compact", e, api.OK)
		next, e = ballot.Compact(next, 7, nil)
		comes(t, "Compact", e, api.OK)
		is(t, "Compact", next, with(s, func(s *ballot.State) {
			s.Base, s.BaseTerm, s.Data, s.Log = 7, 5, nil, s.Log[3:]
		}))
		for _, i := range []uint64{0, 3, 4, 8, 9, 10, 1 << 60, math.MaxUint64} {
			next, e := ballot.Compact(s, i, []byte("new"))
			comes(t, "Compact", e, api.ErrArg)
			is(t, "Compact", next, s)
		}
		s.Commit = 1 << 40 // as far as the last index only
		last := ballot.Last(s)
		next, e = ballot.Compact(s, last+1, nil)
		comes(t, "Compact", e, api.ErrArg)
		is(t, "Compact", next, s)
		next, e = ballot.Compact(s, last, nil)
		comes(t, "Compact", e, api.OK)
		if next.Base != last || len(next.Log) != 0 {
			t.Errorf("Compact of all: %s", told(next))
		}
	}
}
