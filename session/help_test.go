package session_test

import (
	"bytes"
	"slices"
	"strconv"
	"testing"

	"battledore/api"
	"battledore/octet"
	"battledore/session"
)

// call: a session, a number, and what was replied to it.
type call struct {
	id, number uint64
	reply      string
}

// comes asks that a call returned that error.
func comes(t *testing.T, what string, e, want api.Errno) {
	t.Helper()
	if e != want {
		t.Errorf("%s: %d, want %d", what, e, want)
	}
}

// asks asks that Ask returns that reply, or that error.
func asks(t *testing.T, x *session.Table, id, number uint64, reply string, want api.Errno) {
	t.Helper()
	got, e := x.Ask(id, number)
	if string(got) != reply || e != want {
		t.Errorf("Ask(%d, %d) = %q, %d, want %q, %d", id, number, got, e, reply, want)
	}
}

// put: a table to which that was replied, one after the other.
func put(t *testing.T, l ...call) *session.Table {
	t.Helper()
	x := session.New()
	for _, c := range l {
		comes(t, "Put "+told(c), x.Put(c.id, c.number, []byte(c.reply)), api.OK)
	}
	return x
}

func told(c call) string {
	return strconv.FormatUint(c.id, 10) + "/" + strconv.FormatUint(c.number, 10)
}

// laid: a table as bytes, as the chapter says, in the order in which it is given.
func laid(l ...call) []byte {
	w := &octet.Writer{}
	w.Uint(uint64(len(l)))
	for _, c := range l {
		w.Uint(c.id).Uint(c.number).Text(c.reply)
	}
	return w.Done()
}

// is asks that a table has these sessions, in whatever order they are given: by each of its calls.
func is(t *testing.T, what string, x *session.Table, l ...call) {
	t.Helper()
	l = slices.Clone(l)
	slices.SortFunc(l, func(a, b call) int {
		if a.id < b.id {
			return -1
		}
		return 1
	})
	if x.Len() != len(l) {
		t.Errorf("%s: Len = %d, want %d", what, x.Len(), len(l))
	}
	for _, c := range l {
		asks(t, x, c.id, c.number, c.reply, api.OK)
	}
	if got := x.Save(); !bytes.Equal(got, laid(l...)) {
		t.Errorf("%s: Save = %x, want %x", what, got, laid(l...))
	}
}

// loaded: the table of some bytes, which must be there.
func loaded(t *testing.T, p []byte) *session.Table {
	t.Helper()
	x, e := session.Load(p)
	if x == nil || e != api.OK {
		t.Fatalf("Load(%x): %d", p, e)
	}
	return x
}

// full: the calls that make as many sessions as there may be: 10, 20 ..
func full() []call {
	var l []call
	for i := range session.Most {
		l = append(l, call{uint64(i+1) * 10, 5, strconv.Itoa(i)})
	}
	return l
}
