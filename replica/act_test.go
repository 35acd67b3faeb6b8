package replica_test

import (
	"bytes"
	"testing"

	"battledore/api"
	"battledore/ballot"
	"battledore/octet"
	"battledore/replica"
)

// P19.2: a tick is ballot's, with that draw; what it sends is sent.
func TestTick(t *testing.T) {
	for n := 1; n <= api.MaxNodes; n++ {
		for _, draw := range []int{-1, 0, 3, 99} {
			r := made(t, usual(n), n-1)
			for range 12 {
				want, out := ballot.Tick(r.State(), draw)
				comes(t, "Tick", r.Tick(draw), api.OK)
				is(t, "Tick", r, want)
				sends(t, "Tick", r, out...)
				keeps(t, "Tick", r)
			}
		}
	}
}

// P19.2: a message is received as ballot's, with that draw; what it sends is sent.
func TestIn(t *testing.T) {
	for _, draw := range []int{-1, 0, 3, 99} {
		r := made(t, usual(3), 0)
		for _, m := range []ballot.Msg{
			{Kind: ballot.VoteAsk, From: 1, Term: 2},
			{Kind: ballot.VoteAsk, From: 2, Term: 2},
			{Kind: ballot.LogAsk, From: 1, Term: 2, Entries: entries(1, 1, 2), Commit: 2},
			{Kind: ballot.LogAsk, From: 1, Term: 2, Index: 9, LogTerm: 2},
			{Kind: ballot.LogAsk, From: 2, Term: 3, Index: 2, LogTerm: 1, Entries: entries(3), Commit: 2},
			{Kind: ballot.SnapAsk, From: 2, Term: 3, Index: 2, LogTerm: 1, Data: []byte("isn't looked at")},
			{Kind: ballot.SnapAsk, From: 2, Term: 3, Index: 3, LogTerm: 3, Data: bookOf(3)},
			{Kind: ballot.LogTell, From: 2, Term: 4, Index: 3},
			{Kind: ballot.VoteTell, From: 2, Term: 4, OK: true},
		} {
			before := r.State()
			want, out, e := ballot.Receive(before, m, draw)
			comes(t, toldMsg(m), e, api.OK)
			comes(t, toldMsg(m), r.In(ballot.Encode(m), draw), e)
			is(t, toldMsg(m)+" to "+told(before), r, want)
			sends(t, toldMsg(m), r, out...)
			keeps(t, toldMsg(m), r)
		}
	}
}

// P19.2: bytes that are no message, and messages that Receive refuses; nothing changes.
func TestInErrors(t *testing.T) {
	r := made(t, usual(3), 0)
	gets(t, r, logAsk(r, 2, 0, 0, 1, entries(1, 2)...), api.OK)
	r.Out()
	good := ballot.Encode(logAsk(r, 2, 2, 2, 1, entries(2)...))
	torn := bytes.Clone(good)
	torn[0] ^= 1
	before, ops := r.State(), r.Disk().Ops()
	for _, x := range []struct {
		what string
		b    []byte
		want api.Errno
	}{
		{"nothing", nil, api.ErrForm},
		{"less than a seal", []byte("abc"), api.ErrForm},
		{"a wrong seal", torn, api.ErrSum},
		{"a part", good[:len(good)-1], api.ErrSum},
		{"sealed bytes that are no message", octet.Seal([]byte("nothing")), api.ErrForm},
		{"to another node", ballot.Encode(ballot.Msg{Kind: ballot.LogAsk, From: 1, To: 2, Term: 9}), api.ErrArg},
		{"from itself", ballot.Encode(ballot.Msg{Kind: ballot.LogAsk, From: 0, To: 0, Term: 9}), api.ErrArg},
		{"from no node", ballot.Encode(ballot.Msg{Kind: ballot.LogAsk, From: 3, To: 0, Term: 9}), api.ErrArg},
		{"of no kind", ballot.Encode(ballot.Msg{Kind: 0, From: 1, To: 0, Term: 9}), api.ErrArg},
		{"of no kind", ballot.Encode(ballot.Msg{Kind: 6, From: 1, To: 0, Term: 9}), api.ErrArg},
	} {
		_, e := ballot.Decode(x.b)
		if e == api.OK {
			e = api.ErrArg
		}
		comes(t, x.what, r.In(x.b, 0), x.want)
		comes(t, x.what, e, x.want)
		is(t, x.what, r, before)
		sends(t, x.what, r)
		replies(t, x.what, r)
	}
	if r.Disk().Ops() != ops || !r.Up() {
		t.Errorf("%d calls of the drum", r.Disk().Ops()-ops)
	}
}

// P19.2: a message of an earlier term is refused, and its sender is told; a leader refuses one of its own term.
func TestInLate(t *testing.T) {
	r := made(t, usual(3), 0)
	gets(t, r, logAsk(r, 5, 0, 0, 0, entries(1, 2)...), api.OK)
	r.Out()
	before := r.State()
	for _, m := range []ballot.Msg{logAsk(r, 4, 2, 2, 2, entries(4)...), snapAsk(r, 4, 2, 2, bookOf(2))} {
		gets(t, r, m, api.ErrStale)
		is(t, toldMsg(m), r, before)
		sends(t, toldMsg(m), r, ballot.Msg{Kind: ballot.LogTell, From: 0, To: 1, Term: 5, Index: 2})
	}
	r = leading(t, usual(3))
	before = r.State()
	for _, m := range []ballot.Msg{logAsk(r, 1, 0, 0, 0), snapAsk(r, 1, 2, 1, bookOf(2))} {
		gets(t, r, m, api.ErrState)
		is(t, toldMsg(m), r, before)
		sends(t, toldMsg(m), r)
	}
}

// P19.2: a snapshot above Commit whose data isn't a book with that many entries is refused, ahead of Receive's errors.
func TestNotABook(t *testing.T) {
	three := bookOf(3)
	torn := bytes.Clone(three)
	torn[len(torn)/2] ^= 1
	for _, data := range [][]byte{nil, {}, []byte("no book"), torn, three[:len(three)-1], bookOf(2), bookOf(4), bookOf(0)} {
		r := made(t, usual(3), 0)
		gets(t, r, logAsk(r, 5, 0, 0, 2, entries(1, 1, 1, 1)...), api.OK)
		r.Out()
		before := r.State()
		bad := snapAsk(r, 5, 3, 1, data)
		elsewhere, late, later := bad, bad, bad
		elsewhere.To, late.Term, later.Term = 2, 4, 6
		for _, m := range []ballot.Msg{bad, elsewhere, late, later} {
			gets(t, r, m, api.ErrForm)
			is(t, toldMsg(m), r, before)
			has(t, toldMsg(m), r, bookOf(2), entries(1, 1)...)
			sends(t, toldMsg(m), r)
		}
		for _, i := range []uint64{0, 1, 2} {
			m := snapAsk(r, 5, i, 1, data)
			gets(t, r, m, api.OK)
			sends(t, toldMsg(m), r, ballot.Msg{Kind: ballot.LogTell, From: 0, To: 1, Term: 5, OK: true, Index: i})
		}
		m := logAsk(r, 5, 4, 1, 2)
		m.Data = data
		gets(t, r, m, api.OK)
		bad.Data = three
		gets(t, r, bad, api.OK)
		has(t, "a book", r, three)
	}
}

// P19.2: what is asked, and can't be: the first of these errors. Nothing is answered then.
func TestAskErrors(t *testing.T) {
	long := make([]byte, api.MaxSource+1)
	r := made(t, usual(3), 0)
	for range 2 {
		before := r.State()
		lead := api.ErrLeader
		if before.Role == ballot.Leader {
			lead = api.ErrLong
		}
		comes(t, "Ask(0, 1)", r.Ask(0, 1, long), api.ErrArg)
		comes(t, "Ask(1, 0)", r.Ask(1, 0, long), api.ErrArg)
		comes(t, "Ask(0, 0)", r.Ask(0, 0, nil), api.ErrArg)
		comes(t, "Ask(1, 1)", r.Ask(1, 1, long), lead)
		if lead == api.ErrLeader {
			comes(t, "Ask(1, 1)", r.Ask(1, 1, nil), lead)
		}
		is(t, "Ask", r, before)
		sends(t, "Ask", r)
		replies(t, "Ask", r)
		if lead == api.ErrLeader {
			leads(t, r)
		}
	}
}

// P19.2: an entry of a leader is sent to the others, and is answered when it is applied, not ahead of that.
func TestAsk(t *testing.T) {
	r := leading(t, usual(3))
	confirm(t, r)
	for i, s := range []string{"let x = 20", "x + 1", "x +", "nothing", "", "1 / 0"} {
		before := r.State()
		want, out, index, e := ballot.Propose(before, 7, uint64(2*i+1), []byte(s))
		comes(t, "Propose", e, api.OK)
		asks(t, r, 7, uint64(2*i+1), s)
		is(t, s, r, want)
		keeps(t, s, r)
		sends(t, s, r, out...)
		replies(t, s, r)
		confirm(t, r)
		cells := []string{"let x = 20", s}
		if i == 0 {
			cells = cells[:1]
		}
		replies(t, s, r, replica.Reply{Session: 7, Number: uint64(2*i + 1), Data: outcome(cells...)})
		if r.Book().Len() != index {
			t.Errorf("%d entries, want %d", r.Book().Len(), index)
		}
	}
}

// P19.2: one node alone answers at once.
func TestAskAlone(t *testing.T) {
	r := leading(t, usual(1))
	asks(t, r, 1, 1, "let x = 1")
	asks(t, r, 1, 2, "x + 1")
	asks(t, r, 1, 9, "x + 2")
	replies(t, "Ask", r,
		replica.Reply{Session: 1, Number: 1, Data: outcome("let x = 1")},
		replica.Reply{Session: 1, Number: 2, Data: outcome("let x = 1", "x + 1")},
		replica.Reply{Session: 1, Number: 9, Data: outcome("let x = 1", "x + 2")})
	sends(t, "Ask", r)
	book := bookOf(0, entries(1)[0], entry(1, 1, 1, "let x = 1"), entry(1, 1, 2, "x + 1"), entry(1, 1, 9, "x + 2"))
	has(t, "Ask", r, book, entry(1, 0, 0, ""), entry(1, 1, 1, "let x = 1"), entry(1, 1, 2, "x + 1"), entry(1, 1, 9, "x + 2"))
}

// P19.2, P5: a number that was answered is answered at once, also by a node that doesn't lead; one that is over, or of one session too many, is refused so.
func TestAskAgain(t *testing.T) {
	r := made(t, usual(3), 1)
	l := []api.Entry{entry(1, 3, 4, "let x = 5"), entry(1, 3, 6, "x")}
	gets(t, r, logAsk(r, 1, 0, 0, 2, l...), api.OK)
	r.Out()
	before := r.State()
	long := string(make([]byte, api.MaxSource+1))
	for _, cell := range []string{"x", "", "another one", long} {
		for range 2 {
			asks(t, r, 3, 6, cell)
			asks(t, r, 3, 5, cell)
			asks(t, r, 3, 4, cell)
			replies(t, "Ask", r,
				replica.Reply{Session: 3, Number: 6, Data: outcome("let x = 5", "x")},
				replica.Reply{Session: 3, Number: 5, E: api.ErrStale},
				replica.Reply{Session: 3, Number: 4, E: api.ErrStale})
		}
	}
	comes(t, "Ask", r.Ask(3, 7, nil), api.ErrLeader)
	comes(t, "Ask", r.Ask(4, 6, nil), api.ErrLeader)
	is(t, "Ask", r, before)
	sends(t, "Ask", r)
	r = leading(t, usual(1))
	for i := range uint64(64) {
		asks(t, r, 100+i, 1, "")
	}
	if len(r.Replies()) != 64 {
		t.Error("not all are answered")
	}
	asks(t, r, 99, 1, "")
	asks(t, r, 100, 1, "")
	replies(t, "Ask", r, replica.Reply{Session: 99, Number: 1, E: api.ErrLong}, replica.Reply{Session: 100, Number: 1, Data: outcome("")})
}

// P19.2: what waits is answered in the order of the entries; those who asked the same number twice get the same, executed once.
func TestWaits(t *testing.T) {
	r := leading(t, usual(3))
	asks(t, r, 1, 1, "let x = ref 0")
	asks(t, r, 1, 2, "x := !x + 1; !x")
	asks(t, r, 1, 2, "x := !x + 1; !x")
	asks(t, r, 1, 1, "let x = ref 5")
	asks(t, r, 1, 3, "!x")
	replies(t, "ahead", r)
	confirm(t, r)
	first, second := outcome("let x = ref 0"), outcome("let x = ref 0", "x := !x + 1; !x")
	replies(t, "behind", r,
		replica.Reply{Session: 1, Number: 1, Data: first},
		replica.Reply{Session: 1, Number: 2, Data: second},
		replica.Reply{Session: 1, Number: 2, Data: second},
		replica.Reply{Session: 1, Number: 1, E: api.ErrStale},
		replica.Reply{Session: 1, Number: 3, Data: outcome("let x = ref 0", "x := !x + 1; !x", "!x")})
	confirm(t, r)
	replies(t, "later", r)
}

// P19.2: an index at which the entry of another leader is applied: who waits for it is told so, in the order in which they have asked; if it has the same session and number, the outcome.
func TestWaitsForOthers(t *testing.T) {
	r := leading(t, usual(3))
	asks(t, r, 1, 1, "10") // the index 2
	asks(t, r, 2, 1, "20")
	asks(t, r, 3, 1, "30")
	gets(t, r, logAsk(r, 2, 0, 0, 0, entries(2)...), api.OK)
	leads(t, r) // the last index is 2
	asks(t, r, 3, 1, "33")
	asks(t, r, 4, 1, "40")
	asks(t, r, 5, 1, "50")
	replies(t, "ahead", r)
	gets(t, r, logAsk(r, 4, 1, 2, 1, entry(4, 1, 2, "x"), entry(4, 3, 1, "3"), entry(4, 4, 2, "4"), entry(4, 9, 1, "9")), api.OK)
	replies(t, "ahead", r)
	gets(t, r, logAsk(r, 4, 5, 4, 2), api.OK)
	replies(t, "the index 2", r, replica.Reply{Session: 1, Number: 1, E: api.ErrLeader})
	gets(t, r, logAsk(r, 4, 5, 4, 5), api.OK)
	replies(t, "the indices 3 to 5", r,
		replica.Reply{Session: 2, Number: 1, E: api.ErrLeader},
		replica.Reply{Session: 3, Number: 1, Data: outcome("3")},
		replica.Reply{Session: 3, Number: 1, E: api.ErrLeader},
		replica.Reply{Session: 4, Number: 1, E: api.ErrLeader},
		replica.Reply{Session: 5, Number: 1, E: api.ErrLeader})
}

// P19.2: an entry that another leader has confirmed is answered by the one who was asked, in whatever term it is.
func TestWaitsLongAfter(t *testing.T) {
	r := leading(t, usual(3))
	asks(t, r, 1, 1, "10")
	gets(t, r, logAsk(r, 2, 2, 1, 0), api.OK)
	replies(t, "another leader", r)
	gets(t, r, logAsk(r, 3, 2, 1, 3, entries(3)...), api.OK)
	replies(t, "a third one", r, replica.Reply{Session: 1, Number: 1, Data: outcome("10")})
}

// P19.2: who waits for an entry that a snapshot has is not answered by that; who waits for a later one is, then.
func TestWaitsForSnapshot(t *testing.T) {
	r := leading(t, usual(3))
	asks(t, r, 1, 1, "10") // the index 2
	asks(t, r, 2, 1, "20")
	gets(t, r, snapAsk(r, 2, 2, 1, bookOf(2, entry(0, 0, 0, ""), entry(1, 1, 1, "10"))), api.OK)
	replies(t, "a snapshot", r)
	gets(t, r, logAsk(r, 2, 3, 1, 3), api.OK)
	replies(t, "a later entry", r, replica.Reply{Session: 2, Number: 1, Data: outcome("20")})
	asks(t, r, 1, 1, "10")
	replies(t, "asked again", r, replica.Reply{Session: 1, Number: 1, Data: outcome("10")})
}

// P19.4: what is to be sent, and what is answered, is returned once.
func TestOnce(t *testing.T) {
	r := leading(t, usual(3))
	confirm(t, r)
	asks(t, r, 1, 1, "1")
	confirm(t, r)
	comes(t, "Tick", r.Tick(0), api.OK)
	l := r.Out()
	if len(l) != 4 || l[0].From != 0 || l[0].To != 1 || l[3].To != 2 {
		t.Errorf("sent %s", list(l, toldPacket))
	}
	replies(t, "once", r, replica.Reply{Session: 1, Number: 1, Data: outcome("1")})
	for range 2 {
		sends(t, "again", r)
		replies(t, "again", r)
	}
	comes(t, "Tick", r.Tick(0), api.OK)
	if len(r.Out()) != 2 {
		t.Error("the next tick sends nothing")
	}
}

// P19.4: the entries that were applied since the book was read; that of a leader has no session.
func TestApplied(t *testing.T) {
	r := made(t, usual(3), 1)
	l := []api.Entry{entry(1, 0, 0, ""), entry(1, 2, 1, "let x = 1"), entry(2, 2, 1, "let x = 2"), entry(2, 1, 5, "x")}
	for i := range 5 {
		gets(t, r, logAsk(r, 2, 0, 0, uint64(i), l...), api.OK)
		has(t, "one more", r, bookOf(i, l[:i]...), l[:i]...)
	}
	gets(t, r, logAsk(r, 2, 0, 0, 2, l...), api.OK)
	has(t, "a Commit that is lower", r, bookOf(4, l...), l...)
}
