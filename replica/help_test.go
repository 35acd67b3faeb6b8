package replica_test

import (
	"bytes"
	"slices"
	"strconv"
	"strings"
	"testing"

	"battledore/api"
	"battledore/ballot"
	"battledore/notebook"
	"battledore/octet"
	"battledore/replica"
	"battledore/store"
	"battledore/wal"
)

// usual: a configuration in which snapshots are rare.
func usual(nodes int) replica.Config {
	return replica.Config{Nodes: nodes, Wait: 5, Every: 1000, Most: api.MaxTrack}
}

// made: a new node that there must be.
func made(t *testing.T, c replica.Config, self int) *replica.Replica {
	t.Helper()
	r, e := replica.New(c, self)
	if r == nil || e != api.OK {
		t.Fatalf("New(%v, %d): %d", c, self, e)
	}
	return r
}

// comes asks that a call returned that error.
func comes(t *testing.T, what string, e, want api.Errno) {
	t.Helper()
	if e != want {
		t.Errorf("%s: %d, want %d", what, e, want)
	}
}

// entries: one of each term, nobody has asked for.
func entries(terms ...uint64) []api.Entry {
	var l []api.Entry
	for _, term := range terms {
		l = append(l, api.Entry{Term: term})
	}
	return l
}

func entry(term, session, number uint64, cell string) api.Entry {
	return api.Entry{Term: term, Session: session, Number: number, Cell: []byte(cell)}
}

// bookOf: the bytes of a book to which n entries were applied, these ahead of others that nobody has asked for.
func bookOf(n int, l ...api.Entry) []byte {
	b := notebook.New()
	for _, x := range l {
		b.Apply(x)
	}
	for b.Len() < uint64(n) {
		b.Apply(api.Entry{})
	}
	return b.Save()
}

// forged: the bytes of a book that says that n entries were applied.
func forged(n uint64) []byte {
	inner, _ := octet.Open(bookOf(0))
	r := octet.NewReader(inner)
	r.Uint()
	w := &octet.Writer{}
	return octet.Seal(w.Uint(n).Bytes(r.Bytes(len(inner))).Bytes(r.Bytes(len(inner))).Done())
}

// list: items as a text.
func list[T any](l []T, tell func(T) string) string {
	var parts []string
	for _, x := range l {
		parts = append(parts, tell(x))
	}
	return "(" + strings.Join(parts, " ") + ")"
}

func number(n uint64) string {
	return strconv.FormatUint(n, 10)
}

func toldEntry(x api.Entry) string {
	return number(x.Term) + "/" + number(x.Session) + "/" + number(x.Number) + "/" + strconv.Quote(string(x.Cell))
}

// told: a state as a text.
func told(s ballot.State) string {
	var b strings.Builder
	b.WriteString("N " + strconv.Itoa(s.N) + " Self " + strconv.Itoa(s.Self) + " Wait " + strconv.Itoa(s.Wait))
	b.WriteString(" Term " + number(s.Term) + " Vote " + strconv.Itoa(s.Vote))
	b.WriteString(" Base " + number(s.Base) + "/" + number(s.BaseTerm) + "/" + number(uint64(octet.Sum(s.Data))))
	b.WriteString(" Log " + list(s.Log, toldEntry) + " Commit " + number(s.Commit))
	b.WriteString(" Role " + strconv.Itoa(int(s.Role)) + " Lead " + strconv.Itoa(s.Lead) + " Left " + strconv.Itoa(s.Left))
	b.WriteString(" Votes " + list(s.Votes, strconv.FormatBool))
	b.WriteString(" Next " + list(s.Next, number) + " Match " + list(s.Match, number))
	return b.String()
}

func toldMsg(m ballot.Msg) string {
	return "[" + strconv.Itoa(int(m.Kind)) + " " + strconv.Itoa(m.From) + ">" + strconv.Itoa(m.To) +
		" Term " + number(m.Term) + " Index " + number(m.Index) + "/" + number(m.LogTerm) + " Commit " + number(m.Commit) +
		" " + strconv.FormatBool(m.OK) + " " + list(m.Entries, toldEntry) + " " + number(uint64(octet.Sum(m.Data))) + "]"
}

func toldPacket(p replica.Packet) string {
	m, e := ballot.Decode(p.Bytes)
	return strconv.Itoa(p.From) + ">" + strconv.Itoa(p.To) + toldMsg(m) + strconv.Itoa(int(e))
}

func toldReply(x replica.Reply) string {
	return number(x.Session) + "/" + number(x.Number) + " " + strconv.Itoa(int(x.E)) + " " + strconv.Quote(string(x.Data))
}

// is asks that a node has that state.
func is(t *testing.T, what string, r *replica.Replica, want ballot.State) {
	t.Helper()
	if x, y := told(r.State()), told(want); x != y {
		t.Errorf("%s:\n%s, want\n%s", what, x, y)
	}
}

// sends asks that these messages are sent, in this order.
func sends(t *testing.T, what string, r *replica.Replica, want ...ballot.Msg) {
	t.Helper()
	var l []replica.Packet
	for _, m := range want {
		l = append(l, replica.Packet{From: m.From, To: m.To, Bytes: ballot.Encode(m)})
	}
	got := r.Out()
	if x, y := list(got, toldPacket), list(l, toldPacket); x != y {
		t.Errorf("%s: sent\n%s, want\n%s", what, x, y)
	}
}

// replies asks that this is answered, in this order.
func replies(t *testing.T, what string, r *replica.Replica, want ...replica.Reply) {
	t.Helper()
	if x, y := list(r.Replies(), toldReply), list(want, toldReply); x != y {
		t.Errorf("%s: answered\n%s, want\n%s", what, x, y)
	}
}

// has asks that a node's book is that of some bytes, and that these entries were applied since it was read.
func has(t *testing.T, what string, r *replica.Replica, book []byte, applied ...api.Entry) {
	t.Helper()
	if !bytes.Equal(r.Book().Save(), book) {
		t.Errorf("%s: another book, with %d entries", what, r.Book().Len())
	}
	if x, y := list(r.Applied(), toldEntry), list(applied, toldEntry); x != y {
		t.Errorf("%s: applied\n%s, want\n%s", what, x, y)
	}
}

// isDown asks that a node does nothing, and tells nothing, until it is started.
func isDown(t *testing.T, what string, r *replica.Replica) {
	t.Helper()
	if r.Up() || len(r.Out()) > 0 || len(r.Replies()) > 0 {
		t.Errorf("%s: it isn't down", what)
	}
	before := told(r.State())
	comes(t, "Tick", r.Tick(0), api.ErrCrash)
	comes(t, "In", r.In(nil, 0), api.ErrCrash)
	comes(t, "In", r.In(ballot.Encode(logAsk(r, 9, 0, 0, 0)), 0), api.ErrCrash)
	comes(t, "Ask", r.Ask(0, 0, nil), api.ErrCrash)
	comes(t, "Ask", r.Ask(1, 1, nil), api.ErrCrash)
	if told(r.State()) != before || r.Up() || len(r.Out()) > 0 || len(r.Replies()) > 0 {
		t.Errorf("%s: it did something while it was down", what)
	}
}

// gets: a node receives a message.
func gets(t *testing.T, r *replica.Replica, m ballot.Msg, want api.Errno) {
	t.Helper()
	comes(t, toldMsg(m), r.In(ballot.Encode(m), 0), want)
}

// logAsk: entries from the next node of the group, behind an index of some term.
func logAsk(r *replica.Replica, term, index, before, commit uint64, l ...api.Entry) ballot.Msg {
	s := r.State()
	return ballot.Msg{Kind: ballot.LogAsk, From: (s.Self + 1) % s.N, To: s.Self, Term: term, Index: index, LogTerm: before, Commit: commit, Entries: l}
}

// snapAsk: a snapshot from the next node of the group.
func snapAsk(r *replica.Replica, term, index, before uint64, data []byte) ballot.Msg {
	m := logAsk(r, term, index, before, 0)
	m.Kind, m.Data = ballot.SnapAsk, data
	return m
}

// leading: a new node that leads, and whose messages were sent.
func leading(t *testing.T, c replica.Config) *replica.Replica {
	t.Helper()
	r := made(t, c, 0)
	leads(t, r)
	return r
}

// leads: a node asks for votes, and gets them all.
func leads(t *testing.T, r *replica.Replica) {
	t.Helper()
	for left := r.State().Left; left > 0; left-- {
		comes(t, "Tick", r.Tick(0), api.OK)
	}
	s := r.State()
	for i := range s.N {
		if i != s.Self {
			gets(t, r, ballot.Msg{Kind: ballot.VoteTell, From: i, To: s.Self, Term: s.Term, OK: true}, api.OK)
		}
	}
	if r.State().Role != ballot.Leader {
		t.Fatalf("it doesn't lead: %s", told(r.State()))
	}
	r.Out()
}

// confirm: the other nodes have all entries of a leader.
func confirm(t *testing.T, r *replica.Replica) {
	t.Helper()
	s := r.State()
	for i := range s.N {
		if i != s.Self {
			gets(t, r, ballot.Msg{Kind: ballot.LogTell, From: i, To: s.Self, Term: s.Term, OK: true, Index: ballot.Last(s)}, api.OK)
		}
	}
}

// asks: somebody asks a node, which must be possible.
func asks(t *testing.T, r *replica.Replica, session, number uint64, cell string) {
	t.Helper()
	comes(t, "Ask("+cell+")", r.Ask(session, number, []byte(cell)), api.OK)
}

// outcome: what cells come to, one after the other; that of the last one.
func outcome(cells ...string) []byte {
	b := notebook.New()
	var p []byte
	for i, s := range cells {
		p, _ = b.Apply(entry(1, 1, uint64(i+1), s))
	}
	return p
}

// kept: what is on a node's disk.
func kept(t *testing.T, r *replica.Replica) (wal.State, store.Snap) {
	t.Helper()
	w, e := wal.Open(r.Disk(), 0)
	comes(t, "wal.Open", e, api.OK)
	s, e := store.Open(r.Disk(), 2)
	comes(t, "store.Open", e, api.OK)
	return w.State(), s.Snap()
}

// keeps asks that a node that is up has on its disk what its state says.
func keeps(t *testing.T, what string, r *replica.Replica) {
	t.Helper()
	l, p := kept(t, r)
	if x, y := told(after(r.State(), l, p)), told(restarted(r.State())); x != y {
		t.Errorf("%s: it keeps\n%s, want\n%s", what, x, y)
	}
}

// after: the state of a node that begins anew with what it has kept.
func after(s ballot.State, l wal.State, p store.Snap) ballot.State {
	x, _ := ballot.New(s.N, s.Self, s.Wait)
	x.Term, x.Vote = l.Term, l.Vote
	x.Base, x.BaseTerm, x.Data, x.Commit = p.Index, p.Term, p.Data, p.Index
	if l.Base == p.Index {
		x.Log = l.Log
	} else if n := int(p.Index - l.Base); n <= len(l.Log) && l.Log[n-1].Term == p.Term {
		x.Log = l.Log[n:]
	}
	return x
}

// restarted: a node that begins anew, if it has kept all that it is to keep.
func restarted(s ballot.State) ballot.State {
	l := wal.State{Term: s.Term, Vote: s.Vote, Base: s.Base, Log: s.Log}
	return after(s, l, store.Snap{Index: s.Base, Term: s.BaseTerm, Data: s.Data})
}

// torn: what a node may begin anew with if the power fails on the way from a state to the next one.
func torn(a, b ballot.State) []string {
	l := []string{told(restarted(a)), told(restarted(b))}
	old := wal.State{Term: a.Term, Vote: a.Vote, Base: a.Base, Log: a.Log}
	snap := store.Snap{Index: b.Base, Term: b.BaseTerm, Data: b.Data}
	if a.Base < b.Base {
		return append(l, told(after(a, old, snap)))
	}
	old.Term, old.Vote = b.Term, b.Vote
	l = append(l, told(after(a, old, snap)))
	same := 0
	for same < min(len(a.Log), len(b.Log)) && a.Log[same].Term == b.Log[same].Term {
		same++
	}
	for n := same + 1; n < len(b.Log); n++ {
		old.Log = b.Log[:n]
		l = append(l, told(after(a, old, snap)))
	}
	return l
}

// oneOf asks that a node has one of these states.
func oneOf(t *testing.T, what string, r *replica.Replica, l []string) {
	t.Helper()
	if got := told(r.State()); !slices.Contains(l, got) {
		t.Fatalf("%s:\n%s, want one of\n%s", what, got, strings.Join(l, "\n"))
	}
}

// spoil changes all of a slice's memory, its spare capacity too.
func spoil[T any](l []T, by T) {
	l = l[:cap(l)]
	for i := range l {
		l[i] = by
	}
}
