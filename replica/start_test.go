package replica_test

import (
	"testing"

	"battledore/api"
	"battledore/ballot"
	"battledore/replica"
	"battledore/store"
	"battledore/wal"
)

// disk writes a log and a snapshot (none of the index 0) onto a new node's drum.
func disk(t *testing.T, c replica.Config, l wal.State, p store.Snap) *replica.Replica {
	t.Helper()
	r := made(t, c, 0)
	w, e := wal.Open(r.Disk(), 0)
	comes(t, "wal.Open", e, api.OK)
	comes(t, "Drop", w.Drop(l.Base, false), api.OK)
	comes(t, "Save", w.Save(l.Term, l.Vote, l.Base+1, l.Log), api.OK)
	s, e := store.Open(r.Disk(), 2)
	comes(t, "store.Open", e, api.OK)
	if p.Index > 0 {
		comes(t, "Save", s.Save(p), api.OK)
	}
	return r
}

// P19.1: what is read: the term, the vote, the snapshot, and the entries behind it, if the log reaches it, with its term there.
func TestStart(t *testing.T) {
	five := entries(1, 1, 2, 2, 3)
	tests := []struct {
		what string
		base uint64
		log  []api.Entry
		snap store.Snap
		want []api.Entry
	}{
		{"no snapshot", 0, five, store.Snap{}, five},
		{"nothing but a vote", 0, nil, store.Snap{}, nil},
		{"a log that begins at it", 3, five[3:], store.Snap{Index: 3, Term: 2}, five[3:]},
		{"a log that begins at it, and is empty", 3, nil, store.Snap{Index: 3, Term: 2}, nil},
		{"a log that begins ahead of it", 0, five, store.Snap{Index: 3, Term: 2}, five[3:]},
		{"one that begins just ahead of it", 2, five[2:], store.Snap{Index: 3, Term: 2}, five[3:]},
		{"one that reaches it just", 0, five[:3], store.Snap{Index: 3, Term: 2}, nil},
		{"one that doesn't reach it", 0, five[:2], store.Snap{Index: 3, Term: 2}, nil},
		{"one that is empty, ahead of it", 1, nil, store.Snap{Index: 3, Term: 2}, nil},
		{"one that ends far ahead of it", 0, five, store.Snap{Index: 100, Term: 2}, nil},
		{"another term there, a lower one", 0, five, store.Snap{Index: 3, Term: 3}, nil},
		{"another term there, a greater one", 1, five[1:], store.Snap{Index: 3, Term: 1}, nil},
		{"the whole of it", 0, five, store.Snap{Index: 5, Term: 3}, nil},
		{"a snapshot of a later term", 0, five, store.Snap{Index: 4, Term: 9}, nil},
	}
	for _, x := range tests {
		for vote := -1; vote < 3; vote++ {
			if x.snap.Index > 0 {
				x.snap.Data = bookOf(int(x.snap.Index))
			}
			r := disk(t, usual(3), wal.State{Term: 3, Vote: vote, Base: x.base, Log: x.log}, x.snap)
			want, _ := ballot.New(3, 0, 5)
			want.Term, want.Vote, want.Log = 3, vote, x.want
			want.Base, want.BaseTerm, want.Data, want.Commit = x.snap.Index, x.snap.Term, x.snap.Data, x.snap.Index
			for range 2 {
				comes(t, x.what, r.Start(nil), api.OK)
				is(t, x.what, r, want)
				has(t, x.what, r, bookOf(int(x.snap.Index)))
				keeps(t, x.what, r)
				if !r.Up() {
					t.Errorf("%s: it isn't up", x.what)
				}
			}
			gets(t, r, logAsk(r, 5, want.Base+uint64(len(x.want)), termAt(want), 0, entries(5, 5)...), api.OK)
			want.Log = append(want.Log, entries(5, 5)...)
			want.Term, want.Vote = 5, -1
			comes(t, x.what, r.Start(nil), api.OK)
			is(t, x.what+", and more entries", r, want)
		}
	}
}

// termAt: the term of the last entry.
func termAt(s ballot.State) uint64 {
	term, _ := ballot.TermAt(s, ballot.Last(s))
	return term
}

// P19.1: what is read, but isn't valid: the node is down, until it is. Its state is as it was.
func TestStartNotValid(t *testing.T) {
	three := bookOf(3)
	torn := append([]byte(nil), three...)
	torn[len(torn)/2] ^= 1
	tests := []struct {
		what string
		vote int
		base uint64
		snap store.Snap
		want api.Errno
	}{
		{"a log behind the snapshot", -1, 4, store.Snap{Index: 3, Term: 1, Data: three}, api.ErrForm},
		{"a log behind no snapshot", -1, 1, store.Snap{}, api.ErrForm},
		{"a book of fewer entries", -1, 0, store.Snap{Index: 4, Term: 1, Data: three}, api.ErrForm},
		{"a book of more entries", -1, 0, store.Snap{Index: 2, Term: 1, Data: three}, api.ErrForm},
		{"no book", -1, 0, store.Snap{Index: 3, Term: 1}, api.ErrForm},
		{"a book that is torn", -1, 0, store.Snap{Index: 3, Term: 1, Data: torn}, api.ErrSum},
		{"a vote for a node that isn't there", 2, 0, store.Snap{Index: 3, Term: 1, Data: three}, api.ErrForm},
	}
	for _, x := range tests {
		r := disk(t, usual(2), wal.State{Term: 7, Vote: x.vote, Base: x.base}, x.snap)
		s, _ := ballot.New(2, 0, 5)
		for range 2 {
			comes(t, x.what, r.Start(nil), x.want)
			isDown(t, x.what, r)
			is(t, x.what, r, s)
			has(t, x.what, r, bookOf(0))
		}
	}
}

// P19.1: a node that was down because of what was on its disk is up again when that is valid.
func TestStartAfterMending(t *testing.T) {
	r := disk(t, usual(2), wal.State{Term: 7, Vote: 1}, store.Snap{Index: 3, Term: 1, Data: bookOf(2)})
	comes(t, "Start", r.Start(nil), api.ErrForm)
	s, _ := store.Open(r.Disk(), 2)
	comes(t, "Save", s.Save(store.Snap{Index: 4, Term: 1, Data: bookOf(4)}), api.OK)
	comes(t, "Start", r.Start(nil), api.OK)
	if x := r.State(); !r.Up() || x.Term != 7 || x.Vote != 1 || x.Base != 4 || r.Book().Len() != 4 {
		t.Errorf("it is up %t: %s", r.Up(), told(x))
	}
}

// P19.1: of what isn't durable a Start keeps what the cuts say.
func TestStartCuts(t *testing.T) {
	for cut := range 100 {
		r := made(t, usual(3), 0)
		comes(t, "Arm", r.Disk().Arm(2), api.OK)
		gets(t, r, logAsk(r, 4, 0, 0, 0, entries(4, 4)...), api.ErrCrash)
		p, _ := r.Disk().Read(0)
		comes(t, "Start", r.Start([]int{cut, cut, cut, cut}), api.OK)
		a, _ := r.Disk().Read(0)
		b, _ := r.Disk().Read(1)
		if len(p) > 0 || len(a)+len(b) > cut || cut > 0 && len(a)+len(b) == 0 {
			t.Errorf("with cuts of %d: %d and %d bytes", cut, len(a), len(b))
		}
		if cut == 99 && (len(r.State().Log) != 2 || r.State().Term != 4) {
			t.Errorf("with cuts of %d: %s", cut, told(r.State()))
		}
	}
}

// P19.1: requests that wait, messages to be sent, and replies are lost, also if nothing has failed.
func TestStartLoses(t *testing.T) {
	r := leading(t, usual(3))
	confirm(t, r)
	asks(t, r, 1, 1, "1")
	confirm(t, r)
	asks(t, r, 2, 1, "2")
	before := r.State()
	comes(t, "Start", r.Start(nil), api.OK)
	is(t, "Start", r, restarted(before))
	has(t, "Start", r, bookOf(0))
	sends(t, "Start", r)
	replies(t, "Start", r)
	leads(t, r)
	confirm(t, r)
	if r.Book().Len() != 4 {
		t.Fatalf("%d entries", r.Book().Len())
	}
	replies(t, "when what was asked is applied", r)
}

// P19.1: what the book and the applied entries are after a Start is by the snapshot.
func TestStartReadsBook(t *testing.T) {
	c := usual(1)
	c.Every = 3
	r := leading(t, c)
	for i := range uint64(7) {
		asks(t, r, 1, i+1, "let x = "+number(i))
	}
	if r.State().Base != 6 || r.Book().Len() != 8 {
		t.Fatalf("Base %d, %d entries", r.State().Base, r.Book().Len())
	}
	data := r.State().Data
	comes(t, "Start", r.Start(nil), api.OK)
	has(t, "Start", r, data)
	leads(t, r)
	if r.Book().Len() != 9 || r.State().Base != 9 || len(r.Applied()) != 3 {
		t.Errorf("Base %d, %d entries, %d applied", r.State().Base, r.Book().Len(), len(r.Applied()))
	}
}

// P19.1: the power fails without a call of the node; a Start turns it on.
func TestPowerOff(t *testing.T) {
	r := leading(t, usual(3))
	confirm(t, r)
	asks(t, r, 1, 1, "1")
	before := r.State()
	r.Disk().Arm(1)
	r.Disk().Sync(0)
	isDown(t, "without power", r)
	is(t, "without power", r, before)
	comes(t, "Start", r.Start(nil), api.OK)
	if !r.Up() || !r.Disk().On() {
		t.Error("it isn't up")
	}
	is(t, "Start", r, restarted(before))
}
