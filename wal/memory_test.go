package wal_test

import (
	"testing"

	"battledore/api"
	"battledore/wal"
)

// spoil changes all of some entries' memory, the spare capacity too.
func spoil(l []api.Entry) {
	for i := range l[:cap(l)] {
		x := &l[:cap(l)][i]
		for k := range x.Cell[:cap(x.Cell)] {
			x.Cell[:cap(x.Cell)][k] = '!'
		}
		*x = api.Entry{Term: 99, Cell: []byte("spoilt")}
	}
}

// The rule about memory: entries that are saved stay as they are, and aren't kept.
func TestArgumentsOfSave(t *testing.T) {
	d := made(t, 2, 1000)
	w := opened(t, d, 0)
	room := append(make([]api.Entry, 0, 9), entries(1, "a", "b", "c", "d")...)
	cell := []byte("abcdef")
	room[1].Cell = cell[1:3]
	kept := entries(1, "a", "bc", "c", "d")
	comes(t, "Save", w.Save(1, 0, 1, room[:2]), api.OK)
	comes(t, "Save", w.Save(1, 0, 3, room[2:3]), api.OK)
	comes(t, "Save", w.Save(1, 0, 3, room[:1]), api.OK)
	if told(wal.State{Log: room}) != told(wal.State{Log: kept}) || string(cell) != "abcdef" {
		t.Errorf("the arguments became %s", told(wal.State{Log: room}))
	}
	spoil(room)
	want := wal.State{Term: 1, Log: append(kept[:2:2], entry(1, "a"))}
	is(t, "spoilt", w, want)
	comes(t, "Drop", w.Drop(0, true), api.OK)
	again(t, "spoilt", d, 0, nil, want)
}

// The rule about memory: states are new, with their spare capacity.
func TestStatesAreNew(t *testing.T) {
	d := made(t, 2, 1000)
	w, want := did(t, d, save(1, 0, 1, entries(1, "a", "bcd", "")...), save(2, 0, 4, entries(2, "e", "f")...))
	for range 3 {
		x, y := w.State(), w.State()
		x.Log[0].Cell = append(x.Log[0].Cell, "more"...)
		spoil(x.Log[1:])
		if told(y) != told(want) {
			t.Errorf("the other one became %s", told(y))
		}
		is(t, "spoilt", w, want)
		comes(t, "Save", w.Save(2, 0, 6, entries(2, "g")), api.OK)
		spoil(y.Log)
		comes(t, "Save", w.Save(2, 0, 6, nil), api.OK)
		is(t, "spoilt", w, want)
		w = again(t, "spoilt", d, 0, nil, want)
	}
	x := w.State()
	comes(t, "Save", w.Save(3, 0, 2, entries(3, "z")), api.OK)
	comes(t, "Drop", w.Drop(1, true), api.OK)
	if told(x) != told(want) {
		t.Errorf("it became %s", told(x))
	}
}

// The rule about memory: the states of two logs that were opened one behind the other.
func TestLogsShareNothing(t *testing.T) {
	d := made(t, 2, 1000)
	_, want := did(t, d, save(1, 0, 1, entries(1, "a", "b", "c")...))
	x, y := opened(t, d, 0), opened(t, d, 0)
	s := x.State()
	spoil(s.Log)
	is(t, "the other one", x, want)
	is(t, "the other one", y, want)
}
