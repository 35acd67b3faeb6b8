package ballot

import (
	"bytes"
	"slices"

	"battledore/api"
)

// node is a state on its way to the next one, in memory of its own, and what it sends.
type node struct {
	State
	out []Msg
}

// others: the other nodes, in increasing order.
func (x *node) others() []int {
	var l []int
	for i := range x.N {
		if i != x.Self {
			l = append(l, i)
		}
	}
	return l
}

func (x *node) send(m Msg) {
	m.From, m.Term = x.Self, x.Term
	x.out = append(x.out, m)
}

// update: another node is sent what it lacks.
func (x *node) update(to int) {
	next := x.Next[to]
	if next <= x.Base {
		x.send(Msg{Kind: SnapAsk, To: to, Index: x.Base, LogTerm: x.BaseTerm, Data: bytes.Clone(x.Data)})
		return
	}
	term, _ := TermAt(x.State, next-1)
	rest := x.Log[min(next-1-x.Base, uint64(len(x.Log))):]
	rest = rest[:min(len(rest), Most)]
	x.send(Msg{Kind: LogAsk, To: to, Index: next - 1, LogTerm: term, Commit: x.Commit, Entries: copies(rest)})
}

func (x *node) updateOthers() {
	for _, i := range x.others() {
		x.update(i)
	}
}

// add: a leader takes an entry.
func (x *node) add(session, number uint64, cell []byte) {
	x.Log = append(x.Log, api.Entry{Term: x.Term, Session: session, Number: number, Cell: bytes.Clone(cell)})
	x.Match[x.Self] = Last(x.State)
	x.commit()
	x.updateOthers()
}

// commit: what more than half of the nodes have is committed, if it is of the present term: what is of an earlier one could still be replaced.
func (x *node) commit() {
	l := slices.Sorted(slices.Values(x.Match))
	i := l[(x.N-1)/2]
	if term, known := TermAt(x.State, i); known && term == x.Term && i > x.Commit {
		x.Commit = i
	}
}

// stand: the node asks for votes, in a new term.
func (x *node) stand(draw int) {
	x.Term++
	x.Vote, x.Role, x.Lead = x.Self, Candidate, -1
	x.rest(draw)
	clear(x.Votes)
	x.Votes[x.Self] = true
	last := Last(x.State)
	term, _ := TermAt(x.State, last)
	for _, i := range x.others() {
		x.send(Msg{Kind: VoteAsk, To: i, Index: last, LogTerm: term})
	}
	x.win()
}

// win: a candidate leads, if more than half have voted for it. With an entry of its own term what is ahead of that can be committed.
func (x *node) win() {
	votes := 0
	for _, yes := range x.Votes {
		if yes {
			votes++
		}
	}
	if x.Role != Candidate || 2*votes <= x.N {
		return
	}
	x.Role, x.Lead = Leader, x.Self
	for i := range x.N {
		x.Next[i], x.Match[i] = Last(x.State)+1, 0
	}
	x.add(0, 0, nil)
}

// follow: the node doesn't lead, nor does it ask for votes, in a term that may be a new one.
func (x *node) follow(term uint64) {
	if term > x.Term {
		x.Term, x.Vote = term, -1
	}
	x.Role = Follower
}

// rest: the node waits anew.
func (x *node) rest(draw int) {
	x.Left = x.Wait + min(max(draw, 0), x.Wait)
}
