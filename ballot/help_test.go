package ballot_test

import (
	"bytes"
	"slices"
	"strconv"
	"strings"
	"testing"

	"battledore/api"
	"battledore/ballot"
)

// made: a new node that there must be.
func made(t *testing.T, n, self, wait int) ballot.State {
	t.Helper()
	s, e := ballot.New(n, self, wait)
	if e != api.OK {
		t.Fatalf("New(%d, %d, %d): %d", n, self, wait, e)
	}
	return s
}

// comes asks that a call returned that error.
func comes(t *testing.T, what string, e, want api.Errno) {
	t.Helper()
	if e != want {
		t.Errorf("%s: %d, want %d", what, e, want)
	}
}

// entries: one of each term, whose cell tells its place among them.
func entries(terms ...uint64) []api.Entry {
	var l []api.Entry
	for i, term := range terms {
		l = append(l, api.Entry{Term: term, Session: 5, Number: uint64(i + 1), Cell: []byte(strconv.Itoa(i))})
	}
	return l
}

// list: items as a text.
func list[T any](l []T, tell func(T) string) string {
	var parts []string
	for _, x := range l {
		parts = append(parts, tell(x))
	}
	return "(" + strings.Join(parts, " ") + ")"
}

func number(n uint64) string {
	return strconv.FormatUint(n, 10)
}

func toldEntry(x api.Entry) string {
	return number(x.Term) + "/" + number(x.Session) + "/" + number(x.Number) + "/" + strconv.Quote(string(x.Cell))
}

// told: a state as a text.
func told(s ballot.State) string {
	var b strings.Builder
	b.WriteString("N " + strconv.Itoa(s.N) + " Self " + strconv.Itoa(s.Self) + " Wait " + strconv.Itoa(s.Wait))
	b.WriteString(" Term " + number(s.Term) + " Vote " + strconv.Itoa(s.Vote))
	b.WriteString(" Base " + number(s.Base) + "/" + number(s.BaseTerm) + "/" + strconv.Quote(string(s.Data)))
	b.WriteString(" Log " + list(s.Log, toldEntry) + " Commit " + number(s.Commit))
	b.WriteString(" Role " + strconv.Itoa(int(s.Role)) + " Lead " + strconv.Itoa(s.Lead) + " Left " + strconv.Itoa(s.Left))
	b.WriteString(" Votes " + list(s.Votes, strconv.FormatBool))
	b.WriteString(" Next " + list(s.Next, number) + " Match " + list(s.Match, number))
	return b.String()
}

// toldMsg: a message as a text.
func toldMsg(m ballot.Msg) string {
	return "[" + strconv.Itoa(int(m.Kind)) + " " + strconv.Itoa(m.From) + ">" + strconv.Itoa(m.To) +
		" Term " + number(m.Term) + " Index " + number(m.Index) + "/" + number(m.LogTerm) + " Commit " + number(m.Commit) +
		" " + strconv.FormatBool(m.OK) + " " + list(m.Entries, toldEntry) + " " + strconv.Quote(string(m.Data)) + "]"
}

// is asks that a state is another one.
func is(t *testing.T, what string, got, want ballot.State) {
	t.Helper()
	if x, y := told(got), told(want); x != y {
		t.Errorf("%s:\n%s, want\n%s", what, x, y)
	}
}

// sends asks that these messages are sent, in this order.
func sends(t *testing.T, what string, got []ballot.Msg, want ...ballot.Msg) {
	t.Helper()
	if x, y := list(got, toldMsg), list(want, toldMsg); x != y {
		t.Errorf("%s: sent\n%s, want\n%s", what, x, y)
	}
}

// stood: a node that has just asked for votes.
func stood(t *testing.T, s ballot.State, draw int) (ballot.State, []ballot.Msg) {
	t.Helper()
	for range 3 * s.Wait {
		var out []ballot.Msg
		term := s.Term
		if s, out = ballot.Tick(s, draw); s.Term > term {
			return s, out
		}
	}
	t.Fatalf("it doesn't ask for votes: %s", told(s))
	return s, nil
}

// voted: a node that has got all votes.
func voted(t *testing.T, s ballot.State) (ballot.State, []ballot.Msg) {
	t.Helper()
	s, out := stood(t, s, 0)
	for i := range s.N {
		if i != s.Self && s.Role != ballot.Leader {
			s, out, _ = ballot.Receive(s, ballot.Msg{Kind: ballot.VoteTell, From: i, To: s.Self, Term: s.Term, OK: true}, 0)
		}
	}
	if s.Role != ballot.Leader {
		t.Fatalf("it doesn't lead: %s", told(s))
	}
	return s, out
}

// got: the state after a message that gives no error, and what is sent.
func got(t *testing.T, s ballot.State, m ballot.Msg) (ballot.State, []ballot.Msg) {
	t.Helper()
	x, out, e := ballot.Receive(s, m, 0)
	comes(t, toldMsg(m), e, api.OK)
	return x, out
}

// gets asks what a node becomes by a message, with that draw, and what it sends.
func gets(t *testing.T, s ballot.State, m ballot.Msg, draw int, want ballot.State, out ...ballot.Msg) {
	t.Helper()
	before := told(s)
	got, sent, e := ballot.Receive(s, m, draw)
	comes(t, toldMsg(m), e, api.OK)
	is(t, toldMsg(m)+" to "+before, got, want)
	sends(t, toldMsg(m)+" to "+before, sent, out...)
}

// fails asks that a message gives an error, with which nothing changes, and what is sent yet.
func fails(t *testing.T, s ballot.State, m ballot.Msg, want api.Errno, out ...ballot.Msg) {
	t.Helper()
	got, sent, e := ballot.Receive(s, m, 7)
	comes(t, toldMsg(m), e, want)
	is(t, toldMsg(m), got, s)
	sends(t, toldMsg(m), sent, out...)
}

// with: a copy of a state, changed.
func with(s ballot.State, change func(*ballot.State)) ballot.State {
	s = ballot.Copy(s)
	change(&s)
	return s
}

// draws are some draws, and what they come to for a wait of 10.
var draws = map[int]int{-1 << 63: 10, -1: 10, 0: 10, 1: 11, 7: 17, 9: 19, 10: 20, 11: 20, 1<<63 - 1: 20}

// spoil changes all of a slice's memory, its spare capacity too.
func spoil[T any](l []T, by T) {
	l = l[:cap(l)]
	for i := range l {
		l[i] = by
	}
}

func spoilEntries(l []api.Entry) {
	for _, x := range l[:cap(l)] {
		spoil(x.Cell, '!')
	}
	spoil(l, api.Entry{Term: 99, Cell: []byte("spoilt")})
}

func spoilState(s ballot.State) {
	spoil(s.Data, '!')
	spoilEntries(s.Log)
	for i := range s.Votes[:cap(s.Votes)] {
		s.Votes[:cap(s.Votes)][i] = !s.Votes[:cap(s.Votes)][i]
	}
	spoil(s.Next, 99)
	spoil(s.Match, 99)
}

func spoilMsgs(l []ballot.Msg) {
	for _, m := range l[:cap(l)] {
		spoilEntries(m.Entries)
		spoil(m.Data, '!')
	}
	spoil(l, ballot.Msg{Kind: 99})
}

// roomy: the same bytes, with spare capacity that isn't empty.
func roomy(p []byte) []byte {
	return append(slices.Grow(bytes.Clone(p), 20), "spare bytes"...)[:len(p)]
}

func roomyEntries(l []api.Entry) []api.Entry {
	out := slices.Grow([]api.Entry(nil), len(l)+3)
	for _, x := range l {
		x.Cell = roomy(x.Cell)
		out = append(out, x)
	}
	return append(out, entries(91, 92, 93)...)[:len(l)]
}

// roomyState: an equal state whose lists all have spare capacity.
func roomyState(s ballot.State) ballot.State {
	s.Data = roomy(s.Data)
	s.Log = roomyEntries(s.Log)
	s.Votes = append(slices.Clone(s.Votes), true, false)[:s.N]
	s.Next = append(slices.Clone(s.Next), 91, 92)[:s.N]
	s.Match = append(slices.Clone(s.Match), 91, 92)[:s.N]
	return s
}
