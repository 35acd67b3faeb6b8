package replica_test

import (
	"bytes"
	"slices"
	"testing"

	"battledore/api"
	"battledore/ballot"
	"battledore/replica"
)

// spoilState changes all of a state's memory.
func spoilState(s ballot.State) {
	spoil(s.Data, '!')
	spoilEntries(s.Log)
	for i := range s.Votes[:cap(s.Votes)] {
		s.Votes[:cap(s.Votes)][i] = !s.Votes[:cap(s.Votes)][i]
	}
	spoil(s.Next, 99)
	spoil(s.Match, 99)
}

func spoilEntries(l []api.Entry) {
	for _, x := range l[:cap(l)] {
		spoil(x.Cell, '!')
	}
	spoil(l, api.Entry{Term: 99, Cell: []byte("spoilt")})
}

// busy: a leader that has a snapshot, entries, and much to send and to answer.
func busy(t *testing.T) *replica.Replica {
	t.Helper()
	c := usual(3)
	c.Every = 4
	r := leading(t, c)
	for i, s := range []string{"let x = 1", "x + 1", "x + 2", "x + 3"} {
		asks(t, r, 1, uint64(i+1), s)
		asks(t, r, 1, uint64(i+1), s)
	}
	confirm(t, r)
	asks(t, r, 1, 5, "x + 4")
	asks(t, r, 1, 4, "x + 4")
	comes(t, "Tick", r.Tick(0), api.OK)
	return r
}

// The rule about memory: what is returned is the caller's.
func TestResultsAreNew(t *testing.T) {
	r := busy(t)
	state, data, applied := told(r.State()), bytes.Clone(r.State().Data), list(r.Applied(), toldEntry)
	for range 2 {
		spoilState(r.State())
		spoilEntries(r.Applied())
	}
	if told(r.State()) != state || !bytes.Equal(r.State().Data, data) || list(r.Applied(), toldEntry) != applied {
		t.Error("it changes with what it has returned")
	}
	keeps(t, "spoilt", r)
	out := r.Out()
	for i, p := range out {
		rest := list(out[i+1:], toldPacket)
		spoil(p.Bytes, '!')
		if list(out[i+1:], toldPacket) != rest {
			t.Error("packets share memory")
		}
	}
	answers := r.Replies()
	if len(answers) < 6 || len(out) < 10 {
		t.Fatalf("only %d replies, %d packets", len(answers), len(out))
	}
	for i, x := range answers {
		rest := list(answers[i+1:], toldReply)
		spoil(x.Data, '!')
		if list(answers[i+1:], toldReply) != rest {
			t.Error("replies share memory")
		}
	}
	spoil(out, replica.Packet{From: 99})
	spoil(answers, replica.Reply{Session: 99})
	sends(t, "spoilt", r)
	replies(t, "spoilt", r)
	asks(t, r, 1, 4, "x + 3")
	replies(t, "asked again", r, replica.Reply{Session: 1, Number: 4, Data: outcome("let x = 1", "x + 1", "x + 2", "x + 3")})
	comes(t, "Tick", r.Tick(0), api.OK)
	if len(r.Out()) != 2 {
		t.Error("what it sends")
	}
	state = told(restarted(r.State()))
	comes(t, "Start", r.Start(nil), api.OK)
	if told(r.State()) != state {
		t.Error("it has kept something else")
	}
}

// The rule about memory: arguments stay as they are, and are not kept.
func TestArgumentsStay(t *testing.T) {
	roomy := func(s string) []byte { return append(slices.Grow([]byte(s), 20), "spare"...)[:len(s)] }
	full := func(p []byte) string { return string(p[:cap(p)]) }
	r, same := leading(t, usual(1)), leading(t, usual(1))
	cell := roomy("let x = 1")
	was := full(cell)
	comes(t, "Ask", r.Ask(1, 1, cell), api.OK)
	if full(cell) != was {
		t.Error("the cell has changed")
	}
	spoil(cell, '!')
	asks(t, same, 1, 1, "let x = 1")
	is(t, "Ask", r, same.State())
	keeps(t, "Ask", r)
	has(t, "Ask", r, same.Book().Save(), same.Applied()...)

	r, same = made(t, usual(3), 0), made(t, usual(3), 0)
	for _, m := range []ballot.Msg{logAsk(r, 1, 0, 0, 1, entry(1, 1, 1, "let x = 1"), entry(1, 1, 2, "x")), snapAsk(r, 1, 4, 1, bookOf(4))} {
		b := roomy(string(ballot.Encode(m)))
		was := full(b)
		comes(t, "In", r.In(b, 0), api.OK)
		if full(b) != was {
			t.Error("the packet has changed")
		}
		spoil(b, '!')
		gets(t, same, m, api.OK)
		is(t, "In", r, same.State())
		keeps(t, "In", r)
		has(t, "In", r, same.Book().Save(), same.Applied()...)
	}
	cuts := append(slices.Grow([]int{3, 2}, 5), 9, 9)[:2]
	comes(t, "Start", r.Start(cuts), api.OK)
	if cuts = cuts[:4]; !slices.Equal(cuts, []int{3, 2, 9, 9}) {
		t.Errorf("the cuts are %v", cuts)
	}
}
