package ballot_test

import (
	"math"
	"testing"

	"battledore/api"
	"battledore/ballot"
)

// voter: a node of which another one asks a vote; the last index is 6, its term 3.
func voter(t *testing.T) ballot.State {
	t.Helper()
	return with(made(t, 5, 1, 10), func(s *ballot.State) {
		s.Term, s.Base, s.BaseTerm, s.Log, s.Commit, s.Lead, s.Left = 4, 4, 2, entries(2, 3), 5, 2, 6
		s.Next[2], s.Match[3] = 8, 9
	})
}

// P16.5: which votes are given, in the node's own term.
func TestVoteAsk(t *testing.T) {
	for _, base := range []bool{false, true} {
		for _, vote := range []int{-1, 0, 1, 2, 4} {
			for _, term := range []uint64{0, 2, 3, 4, 1 << 60} {
				for _, index := range []uint64{0, 5, 6, 7, 1 << 60} {
					for draw, left := range draws {
						s := with(voter(t), func(s *ballot.State) { s.Vote = vote })
						if base {
							s.Base, s.BaseTerm, s.Log = 6, 3, nil
						}
						yes := (vote == -1 || vote == 2) && (term > 3 || term == 3 && index >= 6)
						want := s
						if yes {
							want.Vote, want.Left = 2, left
						}
						m := ballot.Msg{Kind: ballot.VoteAsk, From: 2, To: 1, Term: 4, Index: index, LogTerm: term}
						gets(t, s, m, draw, want, ballot.Msg{Kind: ballot.VoteTell, From: 1, To: 2, Term: 4, OK: yes})
					}
				}
			}
		}
	}
}

// P16.5: a vote that is asked in an earlier term, and in a later one.
func TestVoteAskOtherTerm(t *testing.T) {
	for _, vote := range []int{-1, 0, 2} {
		for _, role := range []byte{ballot.Follower, ballot.Candidate, ballot.Leader} {
			s := with(voter(t), func(s *ballot.State) { s.Vote, s.Role = vote, role })
			m := ballot.Msg{Kind: ballot.VoteAsk, From: 2, To: 1, Term: 3, Index: 100, LogTerm: 100}
			no := ballot.Msg{Kind: ballot.VoteTell, From: 1, To: 2, Term: 4}
			gets(t, s, m, 3, s, no)
			m.Term, no.Term = 7, 7
			want := with(s, func(s *ballot.State) { s.Term, s.Vote, s.Role, s.Lead, s.Left = 7, 2, ballot.Follower, -1, 13 })
			yes := no
			yes.OK = true
			gets(t, s, m, 3, want, yes)
			m.LogTerm = 2
			want.Vote, want.Left = -1, 6
			gets(t, s, m, 3, want, no)
		}
	}
}

// P16.5: one that asks votes itself gives none to another one in its term; nor does a leader.
func TestVoteAskOfCandidate(t *testing.T) {
	s, _ := stood(t, voter(t), 0)
	m := ballot.Msg{Kind: ballot.VoteAsk, From: 0, To: 1, Term: 5, Index: 100, LogTerm: 100}
	no := ballot.Msg{Kind: ballot.VoteTell, From: 1, To: 0, Term: 5}
	gets(t, s, m, 3, s, no)
	s, _ = voted(t, voter(t))
	gets(t, s, m, 3, s, no)
}

// P16.5: a vote counts for one who asks for it in this term.
func TestVoteTell(t *testing.T) {
	candidate, _ := stood(t, voter(t), 0)
	leader, _ := voted(t, voter(t))
	follower := with(voter(t), func(s *ballot.State) { s.Term = 5 })
	yes := ballot.Msg{Kind: ballot.VoteTell, From: 3, To: 1, Term: 5, OK: true}
	no, old, later := yes, yes, yes
	no.OK, old.Term, later.Term = false, 4, 6
	for _, s := range []ballot.State{candidate, leader, follower} {
		want := s
		if s.Role == ballot.Candidate {
			want = with(s, func(s *ballot.State) { s.Votes[3] = true })
		}
		gets(t, s, yes, 3, want)
		gets(t, s, no, 3, s)
		gets(t, s, old, 3, s)
		gets(t, s, later, 3, with(s, func(s *ballot.State) { s.Term, s.Vote, s.Role, s.Lead = 6, -1, ballot.Follower, -1 }))
	}
}

// P16.5: a message to another node, of no other node, or of no kind, changes nothing, whatever its term is.
func TestWrongMessages(t *testing.T) {
	leader, _ := voted(t, voter(t))
	for _, s := range []ballot.State{voter(t), leader} {
		for kind := range 256 {
			for _, to := range []int{math.MinInt, -1, 0, 1, 2, 5, math.MaxInt} {
				for _, from := range []int{math.MinInt, -1, 0, 1, 4, 5, 6, math.MaxInt} {
					fine := to == 1 && (from == 0 || from == 4) && kind >= 1 && kind <= 5
					m := ballot.Msg{Kind: byte(kind), From: from, To: to, Term: 9, OK: true}
					if !fine {
						fails(t, s, m, api.ErrArg)
					} else if _, _, e := ballot.Receive(s, m, 0); e != api.OK {
						t.Errorf("%s: %d", toldMsg(m), e)
					}
				}
			}
		}
	}
}

// P16.5: of itself no node receives anything, one alone nothing at all.
func TestMessagesOfItself(t *testing.T) {
	for n := 1; n <= api.MaxNodes; n++ {
		for self := range n {
			s := made(t, n, self, 10)
			for kind := ballot.VoteAsk; kind <= ballot.SnapAsk; kind++ {
				for from := -1; from <= n; from++ {
					m := ballot.Msg{Kind: kind, From: from, To: self, Term: 2, OK: true}
					if from == -1 || from == self || from == n {
						fails(t, s, m, api.ErrArg)
					}
				}
			}
		}
	}
}
