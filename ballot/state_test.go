package ballot_test

import (
	"math"
	"testing"

	"battledore/api"
	"battledore/ballot"
)

// P16.1: the words' numbers.
func TestNumbers(t *testing.T) {
	if ballot.Follower != 0 || ballot.Candidate != 1 || ballot.Leader != 2 {
		t.Error("roles")
	}
	if ballot.VoteAsk != 1 || ballot.VoteTell != 2 || ballot.LogAsk != 3 || ballot.LogTell != 4 || ballot.SnapAsk != 5 {
		t.Error("kinds")
	}
	if ballot.Most != 8 {
		t.Error("Most")
	}
}

// P16.1: what a new node is, or why there is none.
func TestNew(t *testing.T) {
	for _, n := range []int{math.MinInt, -1, 0, 1, 2, 3, 6, api.MaxNodes, api.MaxNodes + 1, math.MaxInt} {
		for _, self := range []int{math.MinInt, -1, 0, 1, 2, 6, 7, 8, math.MaxInt} {
			for _, wait := range []int{math.MinInt, -1, 0, 1, 2, 3, 999, 1000, 1001, math.MaxInt} {
				s, e := ballot.New(n, self, wait)
				if n < 1 || n > 7 || self < 0 || self >= n || wait < 2 || wait > 1000 {
					comes(t, "New", e, api.ErrArg)
					is(t, "New", s, ballot.State{})
					continue
				}
				comes(t, "New", e, api.OK)
				want := ballot.State{N: n, Self: self, Wait: wait, Vote: -1, Lead: -1, Left: wait}
				want.Votes, want.Next, want.Match = make([]bool, n), make([]uint64, n), make([]uint64, n)
				is(t, "New", s, want)
			}
		}
	}
}

// some: states of several kinds.
func some(t *testing.T) []ballot.State {
	t.Helper()
	fresh := made(t, 3, 1, 10)
	full := with(fresh, func(s *ballot.State) {
		s.Term, s.Vote, s.Base, s.BaseTerm, s.Data, s.Commit = 4, 2, 5, 2, []byte("snap"), 6
		s.Log = entries(2, 3, 3, 4)
	})
	candidate, _ := stood(t, full, 3)
	leader, _ := voted(t, full)
	leader, _ = got(t, leader, ballot.Msg{Kind: ballot.LogTell, From: 2, To: 1, Term: 5, OK: true, Index: 7})
	ahead := with(leader, func(s *ballot.State) { s.Next = []uint64{4, 4, 5} }) // the others need the snapshot
	alone, _ := voted(t, made(t, 1, 0, 2))
	many, _ := voted(t, made(t, 7, 6, 1000))
	return []ballot.State{fresh, full, candidate, leader, ahead, alone, many}
}

// P16.1: a copy is equal, whatever the state is.
func TestCopy(t *testing.T) {
	for _, s := range some(t) {
		is(t, "Copy", ballot.Copy(s), s)
	}
	odd := ballot.State{
		N: -1, Self: 9, Wait: -3, Term: math.MaxUint64, Vote: 77, Base: math.MaxUint64, BaseTerm: 3, Data: []byte{0},
		Log: entries(1, 9, 0), Commit: 2, Role: 200, Lead: -9, Left: math.MinInt,
		Votes: []bool{true}, Next: []uint64{1, 2}, Match: []uint64{3, 4, 5},
	}
	is(t, "Copy", ballot.Copy(odd), odd)
	is(t, "Copy", ballot.Copy(ballot.State{}), ballot.State{})
}

// P16.1: the last index, and the terms of those that are known.
func TestIndices(t *testing.T) {
	fresh := made(t, 1, 0, 2)
	based := with(fresh, func(s *ballot.State) { s.Base, s.BaseTerm = 10, 3 })
	for _, c := range []struct {
		s     ballot.State
		log   []api.Entry
		last  uint64
		known map[uint64]uint64
	}{
		{fresh, nil, 0, map[uint64]uint64{0: 0}},
		{fresh, entries(1, 1, 2), 3, map[uint64]uint64{0: 0, 1: 1, 2: 1, 3: 2}},
		{based, nil, 10, map[uint64]uint64{10: 3}},
		{based, entries(3, 5), 12, map[uint64]uint64{10: 3, 11: 3, 12: 5}},
		{ballot.State{}, nil, 0, map[uint64]uint64{0: 0}},
		{ballot.State{Base: 1 << 60, BaseTerm: 1 << 60}, entries(1 << 60), 1<<60 + 1, map[uint64]uint64{1 << 60: 1 << 60, 1<<60 + 1: 1 << 60}},
	} {
		c.s.Log = c.log
		if got := ballot.Last(c.s); got != c.last {
			t.Errorf("Last(%s) = %d, want %d", told(c.s), got, c.last)
		}
		for _, i := range []uint64{0, 1, 2, 3, 4, 9, 10, 11, 12, 13, 1<<60 - 1, 1 << 60, 1<<60 + 1, 1<<60 + 2, math.MaxUint64} {
			want, known := c.known[i]
			if term, ok := ballot.TermAt(c.s, i); term != want || ok != known {
				t.Errorf("TermAt(%s, %d) = %d, %t, want %d, %t", told(c.s), i, term, ok, want, known)
			}
		}
	}
}
