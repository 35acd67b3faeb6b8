package ballot_test

import (
	"testing"

	"battledore/api"
	"battledore/ballot"
)

// P16.4: a node waits, then it asks for votes, and again and again with a wait of its draw.
func TestTick(t *testing.T) {
	for draw, left := range draws {
		s := with(made(t, 4, 2, 10), func(s *ballot.State) {
			s.Term, s.Vote, s.Base, s.BaseTerm, s.Log, s.Commit, s.Lead = 6, 3, 4, 2, entries(2, 5), 5, 3
			s.Votes[3], s.Next[1], s.Match[3] = true, 9, 8
		})
		for i := range uint64(3) {
			wait := s.Left
			for left := wait - 1; left > 0; left-- {
				want := with(s, func(s *ballot.State) { s.Left = left })
				var out []ballot.Msg
				s, out = ballot.Tick(s, draw)
				is(t, "Tick", s, want)
				sends(t, "Tick", out)
			}
			want := with(s, func(s *ballot.State) {
				s.Term, s.Vote, s.Role, s.Lead, s.Left = 7+i, 2, ballot.Candidate, -1, left
				s.Votes = []bool{false, false, true, false}
			})
			var out []ballot.Msg
			s, out = ballot.Tick(s, draw)
			is(t, "Tick", s, want)
			m := ballot.Msg{Kind: ballot.VoteAsk, From: 2, Term: 7 + i, Index: 6, LogTerm: 5}
			a, b, c := m, m, m
			a.To, b.To, c.To = 0, 1, 3
			sends(t, "Tick", out, a, b, c)
		}
	}
}

// P16.4: a node with a draw waits no longer than its wait at first; votes of an earlier term don't count.
func TestTickAgain(t *testing.T) {
	s, _ := stood(t, made(t, 5, 0, 2), 0)
	s, _ = got(t, s, ballot.Msg{Kind: ballot.VoteTell, From: 3, Term: 1, OK: true})
	s, out := stood(t, s, 0)
	if told(s) != told(with(s, func(s *ballot.State) { s.Votes = []bool{true, false, false, false, false} })) || len(out) != 4 {
		t.Errorf("%s sends %d", told(s), len(out))
	}
	m := ballot.Msg{Kind: ballot.VoteAsk, To: 1, Term: 2} // nothing is in its log
	sends(t, "Tick", out[:1], m)
}

// P16.4, the chapter's example: one node leads as soon as it asks, and what it adds is committed.
func TestAlone(t *testing.T) {
	for _, wait := range []int{2, 3, 1000} {
		s := made(t, 1, 0, wait)
		for i := range wait {
			if s.Role != ballot.Follower || s.Left != wait-i {
				t.Fatalf("after %d ticks: %s", i, told(s))
			}
			var out []ballot.Msg
			s, out = ballot.Tick(s, 1)
			sends(t, "Tick", out)
		}
		want := with(made(t, 1, 0, wait), func(s *ballot.State) {
			s.Term, s.Vote, s.Role, s.Lead, s.Left, s.Commit = 1, 0, ballot.Leader, 0, wait+1, 1
			s.Log = []api.Entry{{Term: 1}}
			s.Votes[0], s.Next[0], s.Match[0] = true, 1, 1
		})
		is(t, "it leads", s, want)
		for range 3 {
			x, out := ballot.Tick(s, 1)
			is(t, "a tick of a leader", x, want)
			sends(t, "a tick of a leader", out)
		}
		s, out, i, e := ballot.Propose(s, 7, 8, []byte("cell"))
		comes(t, "Propose", e, api.OK)
		sends(t, "Propose", out)
		want.Log = append(want.Log, api.Entry{Term: 1, Session: 7, Number: 8, Cell: []byte("cell")})
		want.Commit, want.Match[0] = 2, 2
		is(t, "Propose", s, want)
		if i != 2 {
			t.Errorf("its index is %d", i)
		}
	}
}

// P16.2: with more than half of the votes a candidate leads; one that votes twice counts once.
func TestWin(t *testing.T) {
	for n := 1; n <= api.MaxNodes; n++ {
		s := with(made(t, n, n-1, 10), func(s *ballot.State) {
			s.Base, s.BaseTerm, s.Log, s.Commit = 3, 1, entries(1, 2), 4
		})
		s.Term = 5
		s, _ = stood(t, s, 0)
		votes := 1
		for i := range n - 1 {
			if 2*votes > n {
				break
			}
			for range 2 {
				if s.Role != ballot.Candidate || s.Lead != -1 || len(s.Log) != 2 {
					t.Fatalf("%d of %d votes: %s", votes, n, told(s))
				}
				next, out, e := ballot.Receive(s, ballot.Msg{Kind: ballot.VoteTell, From: i, To: n - 1, Term: 6, OK: true}, 5)
				comes(t, "VoteTell", e, api.OK)
				if s = next; 2*(votes+1) <= n {
					sends(t, "VoteTell", out)
				} else {
					sends(t, "VoteTell", out, firstAsks(s)...)
					break
				}
			}
			votes++
		}
		won(t, s, votes)
	}
}

// firstAsks: what a node that has won by a vote sends.
func firstAsks(s ballot.State) []ballot.Msg {
	var l []ballot.Msg
	for i := range s.N - 1 {
		l = append(l, ballot.Msg{Kind: ballot.LogAsk, From: s.N - 1, To: i, Term: 6, Index: 5, LogTerm: 2, Commit: 4, Entries: []api.Entry{{Term: 6}}})
	}
	return l
}

// won asks that the last node leads, in the term 6.
func won(t *testing.T, s ballot.State, votes int) {
	t.Helper()
	want := with(made(t, s.N, s.N-1, 10), func(x *ballot.State) {
		x.Term, x.Vote, x.Role, x.Lead, x.Left = 6, s.N-1, ballot.Leader, s.N-1, 10
		x.Base, x.BaseTerm, x.Log, x.Commit = 3, 1, append(entries(1, 2), api.Entry{Term: 6}), 4
		for i := range s.N {
			x.Votes[i], x.Next[i] = i < votes-1 || i == s.N-1, 6
		}
		x.Match[s.N-1] = 6
		if s.N == 1 {
			x.Commit = 6
		}
	})
	is(t, "it leads", s, want)
}

// P16.2: what others lack is sent: a snapshot, or at most Most entries.
func TestUpdate(t *testing.T) {
	terms := []uint64{2, 2, 3, 3, 3, 4, 4, 4, 5, 5, 5, 6}
	s := with(made(t, 7, 3, 10), func(s *ballot.State) {
		s.Term, s.Base, s.BaseTerm, s.Data, s.Log, s.Commit = 6, 4, 1, []byte("snap"), entries(terms...), 9
	})
	s, _ = voted(t, s)
	s.Next = []uint64{0, 4, 5, 6, 10, 16, 18}
	want := s
	ask := ballot.Msg{Kind: ballot.LogAsk, From: 3, Term: 7, Commit: 9}
	snap := ballot.Msg{Kind: ballot.SnapAsk, From: 3, Term: 7, Index: 4, LogTerm: 1, Data: []byte("snap")}
	a, b, c, d, e, f := snap, snap, ask, ask, ask, ask
	a.To, b.To = 0, 1
	c.To, c.Index, c.LogTerm, c.Entries = 2, 4, 1, s.Log[:8]
	d.To, d.Index, d.LogTerm, d.Entries = 4, 9, 3, s.Log[5:13]
	e.To, e.Index, e.LogTerm, e.Entries = 5, 15, 5, s.Log[11:]
	f.To, f.Index, f.LogTerm = 6, 17, 7
	for range 2 {
		x, out := ballot.Tick(s, 4)
		is(t, "Tick", x, want)
		sends(t, "Tick", out, a, b, c, d, e, f)
	}
}
