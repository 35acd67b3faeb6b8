package ballot

import (
	"bytes"
	"slices"

	"battledore/api"
)

// Receive: a message comes; draw: as Tick's.
func Receive(s State, m Msg, draw int) (State, []Msg, api.Errno) {
	x := node{State: Copy(s)}
	if !whole(s) {
		return x.State, nil, api.ErrNone
	}
	if m.To != s.Self || m.From == s.Self || m.From < 0 || m.From >= s.N || m.Kind < VoteAsk || m.Kind > SnapAsk {
		return x.State, nil, api.ErrArg
	}
	if m.Term > x.Term {
		x.follow(m.Term)
		x.Lead = -1
	}
	e := x.take(m, draw)
	return x.State, x.out, e
}

// take: what a message does, by its kind.
func (x *node) take(m Msg, draw int) api.Errno {
	switch m.Kind {
	case VoteAsk:
		x.voteAsk(m, draw)
	case VoteTell:
		x.voteTell(m)
	case LogTell:
		x.logTell(m)
	default:
		if e := x.heed(m, draw); e != api.OK {
			return e
		}
		if m.Kind == LogAsk {
			x.logAsk(m)
		} else {
			x.snapAsk(m)
		}
	}
	return api.OK
}

// voteAsk: a node votes once in a term, and only for one whose log isn't behind its own.
func (x *node) voteAsk(m Msg, draw int) {
	last := Last(x.State)
	term, _ := TermAt(x.State, last)
	level := m.LogTerm > term || m.LogTerm == term && m.Index >= last
	votes := m.Term == x.Term && (x.Vote == -1 || x.Vote == m.From) && level
	if votes {
		x.Vote = m.From
		x.rest(draw)
	}
	x.send(Msg{Kind: VoteTell, To: m.From, OK: votes})
}

func (x *node) voteTell(m Msg) {
	if m.Term == x.Term && m.OK && x.Role == Candidate {
		x.Votes[m.From] = true
		x.win()
	}
}

// heed: the node follows the one that sends it entries, or a snapshot. With an error its state is as it was passed: only a message of a later term has changed it by now, and with such a one there is none.
func (x *node) heed(m Msg, draw int) api.Errno {
	if m.Term < x.Term {
		x.tell(m.From, false, Last(x.State))
		return api.ErrStale
	}
	if x.Role == Leader {
		return api.ErrState
	}
	x.follow(m.Term)
	x.Lead = m.From
	x.rest(draw)
	return api.OK
}

func (x *node) tell(to int, ok bool, i uint64) {
	x.send(Msg{Kind: LogTell, To: to, OK: ok, Index: i})
}

func (x *node) logAsk(m Msg) {
	at, before, l := m.Index, m.LogTerm, m.Entries
	if at < x.Base { // what the snapshot stands for is committed, so it is the same here and there
		n := min(x.Base-at, uint64(len(l)))
		at, l = at+n, l[n:]
		if at < x.Base {
			x.tell(m.From, true, at)
			return
		}
		before = x.BaseTerm
	}
	if term, known := TermAt(x.State, at); !known || term != before {
		x.tell(m.From, false, min(Last(x.State), max(at, 1)-1))
		return
	}
	x.store(int(at-x.Base), l)
	at += uint64(len(l))
	x.Commit = max(x.Commit, min(m.Commit, at))
	x.tell(m.From, true, at)
}

// store: entries at a place in the log, and behind it. Those that are there already stay, and so does what is behind them: the message may be older than that.
func (x *node) store(at int, l []api.Entry) {
	for i, e := range copies(l) {
		k := at + i
		if k == len(x.Log) || x.Log[k].Term != e.Term {
			x.Log = append(x.Log[:k], e)
		}
	}
}

func (x *node) snapAsk(m Msg) {
	if m.Index > x.Commit {
		var l []api.Entry
		if term, known := TermAt(x.State, m.Index); known && term == m.LogTerm {
			l = slices.Clone(x.Log[m.Index-x.Base:]) // the entries ahead of them needn't be kept in memory
		}
		x.Base, x.BaseTerm, x.Data = m.Index, m.LogTerm, bytes.Clone(m.Data)
		x.Log, x.Commit = l, m.Index
	}
	x.tell(m.From, true, m.Index)
}

func (x *node) logTell(m Msg) {
	if x.Role != Leader || m.Term != x.Term || m.Index > Last(x.State) {
		return
	}
	next, match := &x.Next[m.From], &x.Match[m.From]
	if !m.OK {
		*next = max(*match, min(*next-1, m.Index)) + 1
		x.update(m.From)
		return
	}
	if m.Index > *match {
		*match = m.Index
		*next = max(*next, m.Index+1)
		x.commit()
	}
}
