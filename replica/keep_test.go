package replica_test

import (
	"strconv"
	"strings"
	"testing"

	"battledore/api"
	"battledore/ballot"
	"battledore/replica"
	"battledore/store"
	"battledore/wal"
)

// deed is something that a node does; on: what its first next state is.
type deed struct {
	what string
	do   func(r *replica.Replica) api.Errno
	on   func(s ballot.State) ballot.State
}

func tick() deed {
	return deed{
		"Tick",
		func(r *replica.Replica) api.Errno { return r.Tick(1) },
		func(s ballot.State) ballot.State { s, _ = ballot.Tick(s, 1); return s },
	}
}

func in(m ballot.Msg) deed {
	return deed{
		toldMsg(m),
		func(r *replica.Replica) api.Errno { return r.In(ballot.Encode(m), 1) },
		func(s ballot.State) ballot.State { s, _, _ = ballot.Receive(s, m, 1); return s },
	}
}

func ask(session, number uint64, cell string) deed {
	return deed{
		"Ask(" + cell + ")",
		func(r *replica.Replica) api.Errno { return r.Ask(session, number, []byte(cell)) },
		func(s ballot.State) ballot.State {
			s, _, _, _ = ballot.Propose(s, session, number, []byte(cell))
			return s
		},
	}
}

// following: what a node does that follows, gets entries and snapshots, and makes one.
func following() []deed {
	one := ballot.Msg{Kind: ballot.LogAsk, From: 1, Term: 1}
	with := func(term, index, before, commit uint64, l ...api.Entry) deed {
		m := one
		m.Term, m.Index, m.LogTerm, m.Commit, m.Entries = term, index, before, commit, l
		return in(m)
	}
	snap := func(term, index, before uint64, data []byte) deed {
		m := one
		m.Kind, m.Term, m.Index, m.LogTerm, m.Data = ballot.SnapAsk, term, index, before, data
		return in(m)
	}
	big := strings.Repeat("(**)", 200)
	return []deed{
		in(ballot.Msg{Kind: ballot.VoteAsk, From: 1, Term: 1}),
		with(1, 0, 0, 1, entry(1, 0, 0, ""), entry(1, 1, 1, "let x = 1"), entry(1, 1, 2, "x + 1"), entry(1, 1, 3, big)),
		in(ballot.Msg{Kind: ballot.VoteAsk, From: 2, Term: 2}),
		with(3, 2, 1, 0, entry(3, 0, 0, ""), entry(3, 2, 1, "let y = 2"), entry(3, 2, 2, "y"), entry(3, 2, 3, "y")),
		with(3, 6, 3, 5),
		snap(4, 6, 3, bookOf(6, entry(1, 0, 0, ""), entry(1, 1, 1, "let x = 1"))),
		with(4, 6, 3, 6, entry(4, 1, 9, "x"), entry(4, 1, 10, "x"), entry(4, 1, 11, "x")),
		snap(5, 8, 4, bookOf(8, entry(5, 5, 5, "let z = 1"))),
		snap(6, 9, 6, bookOf(9, entry(5, 5, 5, "let z = 2"))),
		with(7, 9, 6, 15, entries(7, 7, 7, 7, 7, 7)...),
		snap(7, 30, 7, bookOf(30)),
		tick(), tick(), tick(), tick(), tick(), tick(), tick(),
	}
}

// alone: what a node does that leads alone, and makes snapshots.
func alone() []deed {
	l := []deed{tick(), tick(), tick(), tick(), tick()}
	for i, s := range []string{"let x = 1", "x + 1", "let f = fun x -> x", "f x", "x +", "f (f x)", "let y = f 5", "y"} {
		l = append(l, ask(1, uint64(i+1), s))
	}
	return l
}

// done: a new node after some of these, and its state ahead of the last one.
func done(t *testing.T, c replica.Config, l []deed) (*replica.Replica, ballot.State) {
	t.Helper()
	r := made(t, c, 0)
	before := r.State()
	for _, x := range l {
		before = r.State()
		comes(t, x.what, x.do(r), api.OK)
		keeps(t, x.what, r)
	}
	return r, before
}

// P19.3, P6: the power fails in each call of the drum, with each cut: the node is down, and nothing is sent, or answered; then it has all that it had, and of what was interrupted a part.
func TestCrash(t *testing.T) {
	crashes := 0
	for _, nodes := range []int{1, 3} {
		l := following()
		if nodes == 1 {
			l = alone()
		}
		c := replica.Config{Nodes: nodes, Wait: 5, Every: 4, Most: api.MaxTrack}
		for k := range l {
			r, before := done(t, c, l[:k+1])
			states := append(torn(before, l[k].on(before)), torn(l[k].on(before), r.State())...)
			for n := 1; ; n++ {
				r, _ := done(t, c, l[:k])
				ops := r.Disk().Ops()
				r.Disk().Arm(n)
				if l[k].do(r) == api.OK {
					break
				}
				for i, cut := range []int{-1, 0, 1, 9, 30, 50, 70, 120, 900, 1 << 20} {
					if i > 0 {
						r, _ = done(t, c, l[:k])
						r.Disk().Arm(n)
						comes(t, l[k].what, l[k].do(r), api.ErrCrash)
					}
					what := "after " + strconv.Itoa(k) + " deeds " + l[k].what + ", in the call " + strconv.Itoa(n)
					if crashes++; r.Disk().Ops() != ops+n {
						t.Fatalf("%s: %d calls", what, r.Disk().Ops()-ops)
					}
					isDown(t, what, r)
					comes(t, what, r.Start([]int{cut, cut, cut, cut}), api.OK)
					oneOf(t, what+", cut at "+strconv.Itoa(cut), r, states)
					keeps(t, what, r)
				}
			}
		}
	}
	if crashes < 500 {
		t.Errorf("only %d crashes", crashes)
	}
}

// P19.3, P6: the power fails twice, and what was not durable is lost in part each time; what was answered is there.
func TestCrashTwice(t *testing.T) {
	c := replica.Config{Nodes: 1, Wait: 2, Every: 4, Most: api.MaxTrack}
	for n := 1; n < 40; n++ {
		r := leading(t, c)
		asked, answered := uint64(0), uint64(0)
		for _, m := range []int{n, 1 + n/2, 3} {
			r.Disk().Arm(m)
			for r.Up() {
				asked++
				if r.Ask(1, asked, []byte("1")) == api.OK {
					answered = asked
				}
			}
			before := r.State()
			comes(t, "Start", r.Start([]int{m, m, m, m}), api.OK)
			if last := ballot.Last(r.State()); last < ballot.Last(before) || r.State().Term != before.Term {
				t.Fatalf("with Arm(%d): the last index was %d, is %d", m, ballot.Last(before), last)
			}
			leads(t, r)
			if _, e := r.Book().Ask(1, answered); answered > 0 && e == api.ErrNone {
				t.Errorf("with Arm(%d): %d of %d was answered, and is lost", m, answered, asked)
			}
		}
	}
}

// P19.3: for a new Base the snapshot is durable ahead of the log; a crash between them leaves both, and the entries behind it.
func TestSnapshotFirst(t *testing.T) {
	between := 0
	for n := 1; ; n++ {
		r := made(t, usual(3), 0)
		gets(t, r, logAsk(r, 2, 0, 0, 0, entries(1, 1, 1, 2, 2)...), api.OK)
		r.Disk().Arm(n)
		if r.In(ballot.Encode(snapAsk(r, 3, 3, 1, bookOf(3))), 0) == api.OK {
			break
		}
		comes(t, "Restart", r.Disk().Restart(nil), api.OK)
		l, p := kept(t, r)
		if l.Base > p.Index || l.Term > 2 && l.Base == 0 {
			t.Errorf("in the call %d: the log begins at %d, the snapshot is of %d", n, l.Base, p.Index)
		}
		if l.Base < p.Index {
			between++
		}
		comes(t, "Start", r.Start(nil), api.OK)
		if s := r.State(); ballot.Last(s) != 5 || s.Base != p.Index || s.Term != l.Term {
			t.Errorf("in the call %d: %s", n, told(s))
		}
	}
	if between == 0 {
		t.Error("there is no crash between them")
	}
}

// P19.3: what is to be stored has no room: the node is down, and nothing is sent, until it is started.
func TestFull(t *testing.T) {
	c := usual(3)
	for c.Most = 1; c.Most < 1500; c.Most += 1 + c.Most/10 {
		r := made(t, c, 0)
		for i := uint64(0); ; i++ {
			before := r.State()
			m := logAsk(r, 1, i, min(i, 1), i, entry(1, 1, i+1, "(* some words *)"))
			e := r.In(ballot.Encode(m), 0)
			if e == api.OK && len(r.Out()) == 1 {
				keeps(t, "In", r)
				continue
			}
			comes(t, "In", e, api.ErrFull)
			isDown(t, "without room", r)
			is(t, "without room", r, before)
			if !r.Disk().On() || int(i)*46+60 < c.Most-46-60 {
				t.Errorf("no room for %d entries in %d bytes", i+1, c.Most)
			}
			comes(t, "Start", r.Start(nil), api.OK)
			is(t, "Start", r, restarted(before))
			break
		}
	}
}

// P19.3: no room for a snapshot, one that is received, and one that is made: the messages of the state ahead of that aren't sent either.
func TestSnapshotFull(t *testing.T) {
	c := replica.Config{Nodes: 3, Wait: 5, Every: 3, Most: len(bookOf(3))}
	r := made(t, c, 0)
	before := r.State()
	gets(t, r, snapAsk(r, 1, 3, 1, bookOf(3)), api.ErrFull)
	isDown(t, "a snapshot", r)
	is(t, "a snapshot", r, before)
	comes(t, "Start", r.Start(nil), api.OK)
	is(t, "Start", r, before)
	leads(t, r)
	confirm(t, r)
	asks(t, r, 1, 1, "1")
	asks(t, r, 1, 2, "1")
	s := r.State()
	m := ballot.Msg{Kind: ballot.LogTell, From: 1, To: 0, Term: s.Term, OK: true, Index: ballot.Last(s)}
	want, _, _ := ballot.Receive(s, m, 0)
	gets(t, r, m, api.ErrFull)
	isDown(t, "a compaction", r)
	is(t, "a compaction", r, want)
	comes(t, "Start", r.Start(nil), api.OK)
	is(t, "Start", r, restarted(want))
	replies(t, "Start", r)
}

// P19.3: nothing is written if nothing is to be stored.
func TestNothingToStore(t *testing.T) {
	r := leading(t, usual(3))
	asks(t, r, 1, 1, "1")
	ops := r.Disk().Ops()
	comes(t, "Tick", r.Tick(0), api.OK)
	confirm(t, r)
	asks(t, r, 1, 1, "1")
	gets(t, r, ballot.Msg{Kind: ballot.VoteAsk, From: 1, To: 0, Term: 1}, api.OK)
	if r.Disk().Ops() != ops {
		t.Errorf("%d calls of the drum", r.Disk().Ops()-ops)
	}
}

// P19.3: when the book has Every entries above Base there is a snapshot of it, at that index.
func TestEvery(t *testing.T) {
	for every := 1; every < 12; every++ {
		c := replica.Config{Nodes: 1, Wait: 2, Every: every, Most: api.MaxTrack}
		r := made(t, c, 0)
		comes(t, "Tick", r.Tick(0), api.OK)
		comes(t, "Tick", r.Tick(0), api.OK)
		l := []api.Entry{entry(1, 0, 0, "")}
		for n := 1; n < 30; n++ {
			s, base := r.State(), n-n%every
			if int(s.Base) != base || len(s.Log) != n-base || int(s.Commit) != n || base > 0 && s.BaseTerm != 1 {
				t.Fatalf("with Every %d, after %d entries: %s", every, n, told(s))
			}
			if base > 0 && string(s.Data) != string(bookOf(base, l[:base]...)) {
				t.Fatalf("with Every %d, after %d entries: another book", every, n)
			}
			has(t, "Ask", r, bookOf(n, l...), l...)
			keeps(t, "Ask", r)
			cell := "let x = " + strconv.Itoa(n)
			asks(t, r, 1, uint64(n), cell)
			l = append(l, entry(1, 1, uint64(n), cell))
			if len(r.Replies()) != 1 {
				t.Fatal("it isn't answered")
			}
		}
	}
}

// P19.3: if several entries are applied at once, the snapshot has them all; ahead of it the messages are sent.
func TestEveryOrMore(t *testing.T) {
	c := replica.Config{Nodes: 3, Wait: 5, Every: 3, Most: api.MaxTrack}
	for n := range uint64(8) {
		r := made(t, c, 0)
		m := logAsk(r, 1, 0, 0, n, entries(1, 1, 1, 1, 1, 1, 1, 1)...)
		want, out, _ := ballot.Receive(r.State(), m, 0)
		if n >= 3 {
			want, _ = ballot.Compact(want, n, bookOf(int(n)))
		}
		gets(t, r, m, api.OK)
		is(t, "In", r, want)
		has(t, "In", r, bookOf(int(n)), entries(1, 1, 1, 1, 1, 1, 1, 1)[:n]...)
		sends(t, "In", r, out...)
		keeps(t, "In", r)
	}
}

// P19.3, P19.4: a received snapshot above the book is the book; nothing was applied since then. The entries behind it stay, if it has the term of the one there.
func TestSnapshot(t *testing.T) {
	book := bookOf(3, entry(1, 1, 1, "let x = 7"))
	for _, x := range []struct {
		term   uint64
		behind int
	}{{2, 2}, {1, 0}, {5, 0}} {
		r := made(t, usual(3), 0)
		gets(t, r, logAsk(r, 3, 0, 0, 1, entries(1, 1, 2, 3, 3)...), api.OK)
		has(t, "ahead", r, bookOf(1), entries(1)...)
		r.Out()
		want := r.State()
		want.Base, want.BaseTerm, want.Data, want.Commit, want.Log = 3, x.term, book, 3, entries(3, 3)[:x.behind]
		gets(t, r, snapAsk(r, 3, 3, x.term, book), api.OK)
		is(t, "a snapshot", r, want)
		has(t, "a snapshot", r, book)
		keeps(t, "a snapshot", r)
		sends(t, "a snapshot", r, ballot.Msg{Kind: ballot.LogTell, From: 0, To: 1, Term: 3, OK: true, Index: 3})
		l := []api.Entry{entry(3, 1, 2, "x")}
		gets(t, r, logAsk(r, 4, 3, x.term, 4, l...), api.OK)
		if x.behind > 0 {
			l = entries(3)
		}
		if len(r.Applied()) != 1 || toldEntry(r.Applied()[0]) != toldEntry(l[0]) || r.Book().Len() != 4 {
			t.Errorf("applied %s", list(r.Applied(), toldEntry))
		}
	}
}

// P19.3: one that is not above the book changes nothing, whatever it is.
func TestOldSnapshot(t *testing.T) {
	r := made(t, usual(3), 0)
	gets(t, r, logAsk(r, 3, 0, 0, 3, entries(1, 1, 2, 3)...), api.OK)
	before, book := r.State(), r.Book()
	for i := range uint64(4) {
		gets(t, r, snapAsk(r, 3, i, 3, bookOf(int(i))), api.OK)
		is(t, "an old one", r, before)
		has(t, "an old one", r, bookOf(3), entries(1, 1, 2)...)
	}
	if r.Book() != book {
		t.Error("another book")
	}
}

// P19.3: a snapshot on which a leader has built is sent to those who lack what it stands for, and is their book, too.
func TestSnapshotGoesOn(t *testing.T) {
	c := replica.Config{Nodes: 2, Wait: 5, Every: 3, Most: api.MaxTrack}
	a, b := leading(t, c), made(t, c, 1)
	for i, s := range []string{"let x = 1", "let y = x + 1", "y"} {
		asks(t, a, 1, uint64(i+1), s)
		confirm(t, a)
	}
	if a.State().Base != 3 {
		t.Fatal(told(a.State()))
	}
	for range 6 {
		comes(t, "Tick", a.Tick(0), api.OK)
		pass(t, a, b)
		pass(t, b, a)
	}
	if string(a.Book().Save()) != string(b.Book().Save()) || b.Book().Len() != 4 || b.State().Base != 3 {
		t.Errorf("%d entries: %s", b.Book().Len(), told(b.State()))
	}
}

// pass: what one node sends the other one receives.
func pass(t *testing.T, from, to *replica.Replica) {
	t.Helper()
	for _, p := range from.Out() {
		if e := to.In(p.Bytes, 0); e != api.OK && e != api.ErrStale {
			t.Errorf("%s: %d", toldPacket(p), e)
		}
	}
}

// P19.3, P1: entries and snapshots at the greatest indices.
func TestGreatest(t *testing.T) {
	for _, n := range []uint64{1<<60 - 1, 1 << 60, 1<<63 - 1, 1<<64 - 9, 1<<64 - 2, 1<<64 - 1} {
		for _, every := range []int{1, 3, 1000} {
			c := usual(3)
			c.Every = every
			r := made(t, c, 0)
			gets(t, r, snapAsk(r, 1<<60, n, 1, forged(n)), api.OK)
			if r.Book().Len() != n || r.State().Base != n {
				t.Fatalf("%d entries, Base %d", r.Book().Len(), r.State().Base)
			}
			for k := range uint64(6) {
				s := r.State()
				r.In(ballot.Encode(logAsk(r, 1<<60, ballot.Last(s), termAt(s), ballot.Last(s)+k, entries(1, 1, 1)...)), 0)
				if n <= 1<<60 && r.Book().Len() != r.State().Commit {
					t.Errorf("%d entries, Commit %d", r.Book().Len(), r.State().Commit)
				}
				r.Start(nil)
			}
		}
	}
}

// P19.1, P19.3: entries of more than a cell are stored, up to MaxRecord.
func TestLongEntries(t *testing.T) {
	r := made(t, usual(3), 0)
	l := []api.Entry{entry(1, 1, 1, strings.Repeat(" ", api.MaxRecord)), entry(1, 1, 2, strings.Repeat(" ", api.MaxSource+1))}
	gets(t, r, logAsk(r, 1, 0, 0, 2, l...), api.OK)
	has(t, "long ones", r, bookOf(2, l...), l...)
	comes(t, "Start", r.Start(nil), api.OK)
	if x, y := list(r.State().Log, toldEntry), list(l, toldEntry); x != y {
		t.Error("other entries")
	}
	l[0].Cell = append(l[0].Cell, ' ')
	gets(t, r, logAsk(r, 1, 2, 1, 2, l[0]), api.ErrForm)
}

// P19.1: what is kept is what wal and store keep on their tracks.
func TestTracks(t *testing.T) {
	r := leading(t, replica.Config{Nodes: 1, Wait: 5, Every: 2, Most: api.MaxTrack})
	asks(t, r, 1, 1, "1")
	asks(t, r, 1, 2, "2")
	w, e := wal.Open(r.Disk(), 0)
	comes(t, "wal.Open", e, api.OK)
	if s := w.State(); s.Term != 1 || s.Vote != 0 || s.Base != 2 || list(s.Log, toldEntry) != list([]api.Entry{entry(1, 1, 2, "2")}, toldEntry) {
		t.Errorf("Term %d, Vote %d, Base %d, %s", s.Term, s.Vote, s.Base, list(s.Log, toldEntry))
	}
	s, e := store.Open(r.Disk(), 2)
	comes(t, "store.Open", e, api.OK)
	if p := s.Snap(); p.Index != 2 || p.Term != 1 || string(p.Data) != string(bookOf(2, entry(1, 0, 0, ""), entry(1, 1, 1, "1"))) {
		t.Errorf("Index %d, Term %d, %d bytes", p.Index, p.Term, len(p.Data))
	}
}
