package wal_test

import (
	"slices"
	"strconv"
	"strings"
	"testing"

	"battledore/api"
	"battledore/drum"
	"battledore/wal"
)

// made: a drum that there must be.
func made(t *testing.T, tracks, most int) *drum.Drum {
	t.Helper()
	d, e := drum.New(tracks, most)
	if d == nil || e != api.OK {
		t.Fatalf("New(%d, %d): %d", tracks, most, e)
	}
	return d
}

// opened: the log of two tracks, which must be there.
func opened(t *testing.T, d *drum.Drum, a int) *wal.Wal {
	t.Helper()
	w, e := wal.Open(d, a)
	if w == nil || e != api.OK {
		t.Fatalf("Open(%d): %d", a, e)
	}
	return w
}

// comes asks that a call returned that error.
func comes(t *testing.T, what string, e, want api.Errno) {
	t.Helper()
	if e != want {
		t.Errorf("%s: %d, want %d", what, e, want)
	}
}

// entry: one whose session and number are those of its term.
func entry(term uint64, cell string) api.Entry {
	return api.Entry{Term: term, Session: term + 10, Number: term + 20, Cell: []byte(cell)}
}

func entries(term uint64, cells ...string) []api.Entry {
	var l []api.Entry
	for _, s := range cells {
		l = append(l, entry(term, s))
	}
	return l
}

// told: a state as a text.
func told(s wal.State) string {
	var b strings.Builder
	b.WriteString(strconv.FormatUint(s.Term, 10) + " " + strconv.Itoa(s.Vote) + " " + strconv.FormatUint(s.Base, 10))
	for _, x := range s.Log {
		b.WriteString(" " + strconv.FormatUint(x.Term, 10) + "/" + strconv.FormatUint(x.Session, 10) + "/" + strconv.FormatUint(x.Number, 10) + "/" + strconv.Quote(string(x.Cell)))
	}
	return b.String()
}

// is asks that a log has that state.
func is(t *testing.T, what string, w *wal.Wal, want wal.State) {
	t.Helper()
	if got := told(w.State()); got != told(want) {
		t.Fatalf("%s: %s, want %s", what, got, told(want))
	}
}

// again: the log after the power was off and on, which must have that state, how often soever.
func again(t *testing.T, what string, d *drum.Drum, a int, cuts []int, want wal.State) *wal.Wal {
	t.Helper()
	var w *wal.Wal
	for range 2 {
		comes(t, "Restart", d.Restart(cuts), api.OK)
		w = opened(t, d, a)
		is(t, what+", opened again", w, want)
	}
	return w
}

// call is a Save or a Drop.
type call struct {
	drop bool
	term uint64
	vote int
	from uint64
	l    []api.Entry
	to   uint64
	stay bool
}

func save(term uint64, vote int, from uint64, l ...api.Entry) call {
	return call{term: term, vote: vote, from: from, l: l}
}

func drop(to uint64, stay bool) call {
	return call{drop: true, to: to, stay: stay}
}

func (c call) String() string {
	if c.drop {
		return "Drop(" + strconv.FormatUint(c.to, 10) + ", " + strconv.FormatBool(c.stay) + ")"
	}
	return "Save(" + strconv.FormatUint(c.from, 10) + ", " + told(wal.State{Term: c.term, Vote: c.vote, Log: c.l}) + ")"
}

func (c call) do(w *wal.Wal) api.Errno {
	if c.drop {
		return w.Drop(c.to, c.stay)
	}
	return w.Save(c.term, c.vote, c.from, c.l)
}

// after: the state that the call makes of another one.
func (c call) after(s wal.State) wal.State {
	var l []api.Entry
	for i, x := range s.Log {
		index := s.Base + 1 + uint64(i)
		if c.drop && c.stay && index > c.to || !c.drop && index < c.from {
			l = append(l, x)
		}
	}
	if c.drop {
		return wal.State{Term: s.Term, Vote: s.Vote, Base: c.to, Log: l}
	}
	return wal.State{Term: c.term, Vote: c.vote, Base: s.Base, Log: append(l, c.l...)}
}

// torn: the states that there may be if the call is interrupted.
func (c call) torn(s wal.State) []string {
	l := []string{told(s), told(c.after(s))}
	if c.drop {
		return l
	}
	l = append(l, told(wal.State{Term: c.term, Vote: c.vote, Base: s.Base, Log: s.Log}))
	for n := 1; n < len(c.l); n++ {
		part := c
		part.l = c.l[:n]
		l = append(l, told(part.after(s)))
	}
	return l
}

// did: a log after some calls, none of which may fail, and its state.
func did(t *testing.T, d *drum.Drum, l ...call) (*wal.Wal, wal.State) {
	t.Helper()
	w := opened(t, d, 0)
	s := wal.State{Vote: -1}
	is(t, "a new one", w, s)
	for _, c := range l {
		comes(t, c.String(), c.do(w), api.OK)
		s = c.after(s)
		is(t, c.String(), w, s)
	}
	return w, s
}

// oneOf asks that a log has one of these states.
func oneOf(t *testing.T, what string, w *wal.Wal, l []string) {
	t.Helper()
	if got := told(w.State()); !slices.Contains(l, got) {
		t.Fatalf("%s: %s, want one of\n%s", what, got, strings.Join(l, "\n"))
	}
}
