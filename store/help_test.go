package store_test

import (
	"bytes"
	"strconv"
	"testing"

	"battledore/api"
	"battledore/drum"
	"battledore/store"
)

// made: a drum that there must be.
func made(t *testing.T, tracks, most int) *drum.Drum {
	t.Helper()
	d, e := drum.New(tracks, most)
	if d == nil || e != api.OK {
		t.Fatalf("New(%d, %d): %d", tracks, most, e)
	}
	return d
}

// opened: the store of two tracks, which must be there.
func opened(t *testing.T, d *drum.Drum, a int) *store.Store {
	t.Helper()
	s, e := store.Open(d, a)
	if s == nil || e != api.OK {
		t.Fatalf("Open(%d): %d", a, e)
	}
	return s
}

// comes asks that a call returned that error.
func comes(t *testing.T, what string, e, want api.Errno) {
	t.Helper()
	if e != want {
		t.Errorf("%s: %d, want %d", what, e, want)
	}
}

// snap: a snapshot of so many bytes, which are others for each index.
func snap(index, term uint64, n int) store.Snap {
	s := store.Snap{Index: index, Term: term}
	for i := range n {
		s.Data = append(s.Data, byte(index)*31+byte(i*i))
	}
	return s
}

func same(x, y store.Snap) bool {
	return x.Index == y.Index && x.Term == y.Term && bytes.Equal(x.Data, y.Data)
}

// told: a snapshot as a text, without its bytes.
func told(s store.Snap) string {
	return strconv.FormatUint(s.Index, 10) + "/" + strconv.FormatUint(s.Term, 10) + ", " + strconv.Itoa(len(s.Data)) + " bytes"
}

// is asks that a store has that snapshot.
func is(t *testing.T, what string, x *store.Store, want store.Snap) {
	t.Helper()
	if got := x.Snap(); !same(got, want) {
		t.Fatalf("%s: %s, want %s", what, told(got), told(want))
	}
}

// again: the store after the power was off and on, which must have that snapshot, how often soever.
func again(t *testing.T, what string, d *drum.Drum, a int, cuts []int, want store.Snap) *store.Store {
	t.Helper()
	var x *store.Store
	for range 2 {
		comes(t, "Restart", d.Restart(cuts), api.OK)
		x = opened(t, d, a)
		is(t, what+", opened again", x, want)
	}
	return x
}

// saved: a store after some snapshots, which must be saved, and the last one.
func saved(t *testing.T, d *drum.Drum, l ...store.Snap) (*store.Store, store.Snap) {
	t.Helper()
	x, last := opened(t, d, 0), store.Snap{}
	is(t, "a new one", x, last)
	for _, s := range l {
		comes(t, told(s), x.Save(s), api.OK)
		last = s
		is(t, told(s), x, last)
	}
	return x, last
}
