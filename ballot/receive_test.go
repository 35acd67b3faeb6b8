package ballot_test

import (
	"math"
	"testing"

	"battledore/api"
	"battledore/ballot"
)

// P16.5: what comes of an earlier term is refused, whoever it comes to.
func TestStale(t *testing.T) {
	candidate, _ := stood(t, voter(t), 0)
	leader, _ := voted(t, voter(t))
	for _, s := range []ballot.State{voter(t), candidate, leader} {
		for _, kind := range []byte{ballot.LogAsk, ballot.SnapAsk} {
			for _, term := range []uint64{0, s.Term - 1} {
				m := ballot.Msg{Kind: kind, From: 0, To: 1, Term: term, Index: 4, LogTerm: 2, Commit: 9, Entries: entries(9), Data: []byte("x")}
				fails(t, s, m, api.ErrStale, ballot.Msg{Kind: ballot.LogTell, From: 1, To: 0, Term: s.Term, Index: ballot.Last(s)})
			}
		}
	}
}

// P16.5: a leader takes nothing of another one in its term; of a later term it does.
func TestTwoLeaders(t *testing.T) {
	s, _ := voted(t, voter(t))
	for _, kind := range []byte{ballot.LogAsk, ballot.SnapAsk} {
		m := ballot.Msg{Kind: kind, From: 0, To: 1, Term: 5, Index: 4, LogTerm: 2, Commit: 9, Data: []byte("x")}
		fails(t, s, m, api.ErrState)
		m.Term = 6
		want := with(s, func(s *ballot.State) { s.Term, s.Vote, s.Role, s.Lead, s.Left = 6, -1, ballot.Follower, 0, 14 })
		gets(t, s, m, 4, want, ballot.Msg{Kind: ballot.LogTell, From: 1, To: 0, Term: 6, OK: true, Index: 4})
	}
}

// P16.5: the node follows the one that sends it entries or a snapshot, and waits anew.
func TestFollow(t *testing.T) {
	candidate, _ := stood(t, voter(t), 0)
	for _, s := range []ballot.State{voter(t), candidate} {
		for _, kind := range []byte{ballot.LogAsk, ballot.SnapAsk} {
			for _, later := range []uint64{0, 1, 1 << 59} {
				for draw, left := range draws {
					want := with(s, func(s *ballot.State) { s.Role, s.Lead, s.Left = ballot.Follower, 3, left })
					if later > 0 {
						want.Term, want.Vote = s.Term+later, -1
					}
					m := ballot.Msg{Kind: kind, From: 3, To: 1, Term: want.Term, Index: 4, LogTerm: 2}
					tell := ballot.Msg{Kind: ballot.LogTell, From: 1, To: 3, Term: want.Term, OK: true, Index: 4}
					gets(t, s, m, draw, want, tell)
				}
			}
		}
	}
}

// logged: a node with the base 10 of the term 2, and the entries 11 to 15 behind it.
func logged(t *testing.T) ballot.State {
	t.Helper()
	return with(made(t, 2, 0, 10), func(s *ballot.State) {
		s.Term, s.Vote, s.Base, s.BaseTerm, s.Data, s.Commit = 9, 1, 10, 2, []byte("snap"), 12
		s.Log, s.Lead, s.Left = entries(3, 3, 5, 5, 6), 1, 10
	})
}

// P16.5: which entries are stored, what is committed, and what is told.
func TestLogAsk(t *testing.T) {
	for _, c := range []struct {
		index, term, commit uint64
		terms               []uint64 // of the entries that come
		ok                  bool
		tell                uint64
		log                 []uint64 // the terms of the log then
		comm                uint64
	}{
		{10, 2, 0, nil, true, 10, []uint64{3, 3, 5, 5, 6}, 12},
		{10, 2, 99, nil, true, 10, []uint64{3, 3, 5, 5, 6}, 12},
		{13, 5, 99, nil, true, 13, []uint64{3, 3, 5, 5, 6}, 13},
		{15, 6, 14, nil, true, 15, []uint64{3, 3, 5, 5, 6}, 14},
		{15, 6, 15, nil, true, 15, []uint64{3, 3, 5, 5, 6}, 15},
		{15, 6, 16, []uint64{9}, true, 16, []uint64{3, 3, 5, 5, 6, 9}, 16},
		{15, 6, 0, []uint64{9, 9, 9, 9, 9, 9, 9, 9, 9}, true, 24, []uint64{3, 3, 5, 5, 6, 9, 9, 9, 9, 9, 9, 9, 9, 9}, 12},
		{12, 3, 99, []uint64{5}, true, 13, []uint64{3, 3, 5, 5, 6}, 13},
		{12, 3, 14, []uint64{5, 5, 6, 7}, true, 16, []uint64{3, 3, 5, 5, 6, 7}, 14},
		{12, 3, 14, []uint64{5, 6}, true, 14, []uint64{3, 3, 5, 6}, 14},
		{12, 3, 99, []uint64{5, 6, 6}, true, 15, []uint64{3, 3, 5, 6, 6}, 15},
		{12, 3, 13, []uint64{4}, true, 13, []uint64{3, 3, 4}, 13},
		{13, 5, 13, []uint64{6, 6, 6}, true, 16, []uint64{3, 3, 5, 6, 6, 6}, 13},
		{10, 2, 11, []uint64{3, 3, 7}, true, 13, []uint64{3, 3, 7}, 12},
		{10, 2, 11, []uint64{8}, true, 11, []uint64{8}, 12}, // no leader sends this
		{15, 5, 99, []uint64{9}, false, 14, []uint64{3, 3, 5, 5, 6}, 12},
		{15, 7, 99, nil, false, 14, []uint64{3, 3, 5, 5, 6}, 12},
		{11, 2, 99, []uint64{9}, false, 10, []uint64{3, 3, 5, 5, 6}, 12},
		{10, 3, 99, []uint64{9}, false, 9, []uint64{3, 3, 5, 5, 6}, 12},
		{16, 6, 99, []uint64{9}, false, 15, []uint64{3, 3, 5, 5, 6}, 12},
		{16, 0, 99, []uint64{9}, false, 15, []uint64{3, 3, 5, 5, 6}, 12},
		{17, 6, 99, nil, false, 15, []uint64{3, 3, 5, 5, 6}, 12},
		{1 << 60, 6, 99, nil, false, 15, []uint64{3, 3, 5, 5, 6}, 12},
		// What begins ahead of the base.
		{9, 99, 99, nil, true, 9, []uint64{3, 3, 5, 5, 6}, 12},
		{9, 99, 99, []uint64{1}, true, 10, []uint64{3, 3, 5, 5, 6}, 12},
		{9, 99, 13, []uint64{1, 3}, true, 11, []uint64{3, 3, 5, 5, 6}, 12},
		{8, 0, 14, []uint64{1, 2, 3, 3, 5, 7}, true, 14, []uint64{3, 3, 5, 7}, 14},
		{0, 0, 99, nil, true, 0, []uint64{3, 3, 5, 5, 6}, 12},
		{0, 7, 99, []uint64{1, 1, 1, 1, 1, 1, 1, 1}, true, 8, []uint64{3, 3, 5, 5, 6}, 12},
		{1, 7, 99, []uint64{1, 1, 1, 1, 1, 1, 1, 1}, true, 9, []uint64{3, 3, 5, 5, 6}, 12},
		{2, 7, 99, []uint64{1, 1, 1, 1, 1, 1, 1, 1}, true, 10, []uint64{3, 3, 5, 5, 6}, 12},
		{3, 7, 99, []uint64{1, 1, 1, 1, 1, 1, 1, 9}, true, 11, []uint64{9}, 12}, // nor this
	} {
		m := ballot.Msg{Kind: ballot.LogAsk, From: 1, To: 0, Term: 9, Index: c.index, LogTerm: c.term, Commit: c.commit}
		m.Entries = fresh(c.index, c.terms)
		want := with(logged(t), func(s *ballot.State) { s.Commit, s.Log = c.comm, then(s.Log, m, c.log) })
		tell := ballot.Msg{Kind: ballot.LogTell, From: 0, To: 1, Term: 9, OK: c.ok, Index: c.tell}
		gets(t, logged(t), m, 0, want, tell)
	}
}

// fresh: entries behind an index, which differ from those of the log.
func fresh(index uint64, terms []uint64) []api.Entry {
	var l []api.Entry
	for i, term := range terms {
		l = append(l, api.Entry{Term: term, Session: 100, Number: index + 1 + uint64(i), Cell: []byte("new")})
	}
	return l
}

// then: a log behind the base 10 with these terms: each entry is the one that was there, if its term is, and otherwise the message's.
func then(old []api.Entry, m ballot.Msg, terms []uint64) []api.Entry {
	var l []api.Entry
	for i, term := range terms {
		if i < len(old) && old[i].Term == term {
			l = append(l, old[i])
			continue
		}
		old = nil // what is behind it is removed
		l = append(l, m.Entries[10+i-int(m.Index)])
	}
	return l
}

// P16.5: a node that knows nothing.
func TestLogAskNew(t *testing.T) {
	s := with(made(t, 2, 0, 10), func(s *ballot.State) { s.Lead = 1 })
	m := ballot.Msg{Kind: ballot.LogAsk, From: 1, To: 0}
	tell := ballot.Msg{Kind: ballot.LogTell, From: 0, To: 1}
	yes := tell
	yes.OK = true
	gets(t, s, m, 0, s, yes)
	for _, index := range []uint64{0, 1, 2, 1 << 60} {
		m.Index, m.LogTerm = index, 1
		gets(t, s, m, 0, s, tell)
	}
	m.Index, m.LogTerm, m.Commit, m.Entries, yes.Index = 0, 0, 1, entries(0, 0), 2
	gets(t, s, m, 0, with(s, func(s *ballot.State) { s.Log, s.Commit = entries(0, 0), 1 }), yes)
}

// P16.5: a snapshot counts if it goes beyond what is committed.
func TestSnapAsk(t *testing.T) {
	for _, c := range []struct {
		index, term uint64
		log         []uint64
		counts      bool
	}{
		{0, 0, nil, false}, {9, 2, nil, false}, {10, 2, nil, false}, {11, 3, nil, false}, {12, 3, nil, false}, {12, 9, nil, false},
		{13, 5, []uint64{5, 6}, true},
		{14, 5, []uint64{6}, true},
		{15, 6, nil, true},
		{13, 4, nil, true},
		{14, 6, nil, true},
		{15, 5, nil, true},
		{16, 6, nil, true},
		{1 << 60, 1 << 60, nil, true},
	} {
		s := logged(t)
		want := s
		if c.counts {
			want = with(s, func(s *ballot.State) {
				s.Base, s.BaseTerm, s.Data, s.Commit, s.Log = c.index, c.term, []byte("new"), c.index, s.Log[5-len(c.log):]
			})
		}
		m := ballot.Msg{Kind: ballot.SnapAsk, From: 1, To: 0, Term: 9, Index: c.index, LogTerm: c.term, Data: []byte("new"), Commit: 77, Entries: entries(9)}
		gets(t, s, m, 0, want, ballot.Msg{Kind: ballot.LogTell, From: 0, To: 1, Term: 9, OK: true, Index: c.index})
	}
}

// leading: the middle one of three leads in the term 5, with the base 4, and a log up to 20.
func leading(t *testing.T) ballot.State {
	t.Helper()
	s, _ := voted(t, with(made(t, 3, 1, 10), func(s *ballot.State) {
		s.Term, s.Base, s.BaseTerm, s.Data, s.Commit, s.Log = 4, 4, 2, []byte("snap"), 4, entries(2, 3, 4)
	}))
	for range 12 {
		s, _, _, _ = ballot.Propose(s, 1, 1, []byte("c"))
	}
	return s
}

// P16.5: what another one has is known then, and committed.
func TestLogTell(t *testing.T) {
	s := leading(t)
	for _, c := range []struct{ index, next, match, commit uint64 }{
		{0, 8, 0, 4}, {3, 8, 3, 4}, {4, 8, 4, 4}, {7, 8, 7, 4}, {7, 8, 7, 4}, {5, 8, 7, 4}, {8, 9, 8, 8}, {15, 16, 15, 15}, {14, 16, 15, 15}, {20, 21, 20, 20},
		{21, 21, 20, 20}, {1 << 60, 21, 20, 20}, {0, 21, 20, 20},
	} {
		want := with(s, func(s *ballot.State) { s.Next[2], s.Match[2], s.Commit = c.next, c.match, c.commit })
		gets(t, s, ballot.Msg{Kind: ballot.LogTell, From: 2, To: 1, Term: 5, OK: true, Index: c.index}, 3, want)
		s = want
	}
}

// P16.5: what isn't alike is sent from further ahead at once, but not from ahead of what is.
func TestLogTellNot(t *testing.T) {
	for _, c := range []struct{ next, match, index, then uint64 }{
		{21, 0, 20, 21}, {21, 0, 19, 20}, {21, 0, 13, 14}, {21, 0, 5, 6}, {21, 0, 4, 5}, {21, 0, 3, 4}, {21, 0, 0, 1},
		{10, 0, 20, 10}, {10, 0, 9, 10}, {10, 0, 8, 9}, {10, 9, 0, 10}, {10, 6, 3, 7}, {10, 6, 8, 9}, {10, 4, 0, 5}, {10, 3, 0, 4},
		{3, 0, 20, 3}, {1, 0, 20, 1}, {1, 0, 0, 1}, {4, 6, 20, 7},
	} {
		s := with(leading(t), func(s *ballot.State) { s.Next[2], s.Match[2] = c.next, c.match })
		want := with(s, func(s *ballot.State) { s.Next[2] = c.then })
		ask := ballot.Msg{Kind: ballot.SnapAsk, From: 1, To: 2, Term: 5, Index: 4, LogTerm: 2, Data: []byte("snap")}
		if c.then > 4 {
			term, _ := ballot.TermAt(s, c.then-1)
			ask = ballot.Msg{Kind: ballot.LogAsk, From: 1, To: 2, Term: 5, Index: c.then - 1, LogTerm: term, Commit: 4}
			ask.Entries = s.Log[c.then-5 : min(c.then-5+8, 16)]
		}
		gets(t, s, ballot.Msg{Kind: ballot.LogTell, From: 2, To: 1, Term: 5, Index: c.index}, 3, want, ask)
	}
}

// P16.5: what a LogTell says counts for a leader of its term, as far as its own log goes.
func TestLogTellNothing(t *testing.T) {
	leader := leading(t)
	candidate, _ := stood(t, voter(t), 0)
	follower := with(voter(t), func(s *ballot.State) { s.Term = 5 })
	for _, ok := range []bool{false, true} {
		m := ballot.Msg{Kind: ballot.LogTell, From: 2, To: 1, OK: ok}
		for _, term := range []uint64{0, 4, 5, 6} {
			for _, index := range []uint64{0, 5, 20, 21, math.MaxUint64} {
				m.Term, m.Index = term, index
				for _, s := range []ballot.State{leader, candidate, follower} {
					if s.Role == ballot.Leader && term == 5 && index < 21 {
						continue
					}
					want := s
					if term == 6 {
						want = with(s, func(s *ballot.State) { s.Term, s.Vote, s.Role, s.Lead = 6, -1, ballot.Follower, -1 })
					}
					gets(t, s, m, 3, want)
				}
			}
		}
	}
}
