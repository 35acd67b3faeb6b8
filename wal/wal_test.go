package wal_test

import (
	"math"
	"strings"
	"testing"

	"battledore/api"
	"battledore/wal"
)

// P14.1: a new log: nothing, for which nothing was written.
func TestNew(t *testing.T) {
	d := made(t, 2, 1)
	w := opened(t, d, 0)
	is(t, "a new one", w, wal.State{Vote: -1})
	again(t, "a new one", d, 0, nil, wal.State{Vote: -1})
	if d.Ops() != 0 {
		t.Errorf("%d operations", d.Ops())
	}
}

// P14.1, P14.2: the chapter's example.
func TestExample(t *testing.T) {
	d := made(t, 2, 1000)
	x, y, z := entry(1, "x"), entry(1, "y"), entry(2, "z")
	did(t, d, save(1, 0, 1, x, y), save(2, -1, 2, z))
	again(t, "the example", d, 0, nil, wal.State{Term: 2, Vote: -1, Log: []api.Entry{x, z}})
}

// P14.1, P14.2: what calls leave, in memory, and on the drum after each of them, with any cuts.
func TestCalls(t *testing.T) {
	great := strings.Repeat("c", api.MaxRecord)
	for _, l := range [][]call{
		{save(0, -1, 1)},
		{save(5, 6, 1)},
		{save(math.MaxUint64, 3, 1)},
		{save(9, 0, 1), save(1, -1, 1)}, // terms aren't compared
		{save(1, 0, 1, entries(1, "a", "b", "c")...), save(1, 0, 2)},
		{save(1, 0, 1, entries(1, "a", "b", "c")...), save(2, 1, 1)},
		{save(1, 0, 1, entries(1, "a", "b", "c")...), save(2, 1, 4)},
		{save(1, 0, 1, entries(1, "a", "b", "c")...), save(2, 1, 4, entries(2, "d", "e")...)},
		{save(1, 0, 1, entries(1, "a", "b", "c")...), save(2, 1, 3, entries(2, "d", "e")...), save(2, 1, 5, entries(2, "f")...)},
		{save(1, 0, 1, entries(1, "a", "b", "c")...), save(2, 1, 1, entries(2, "d")...), save(2, 1, 2, entries(2, "e")...)},
		{save(1, 0, 1, entries(1, "", great, "", "a")...), save(1, 0, 5, entries(0, great)...)},
		{save(1, 0, 1, api.Entry{}, api.Entry{Term: math.MaxUint64, Session: math.MaxUint64, Number: math.MaxUint64}), save(1, 0, 3, api.Entry{Session: 1 << 63}, api.Entry{Number: 255}, api.Entry{Term: 256})},
		{drop(0, true)},
		{drop(0, false)},
		{drop(7, true), save(1, 0, 8, entries(1, "a")...)},
		{drop(1<<61, false), save(1, 0, 1<<61+1, entries(1, "a", "b")...), save(1, 0, 1<<61+3, entries(1, "c")...), drop(1<<61+2, true)},
		{save(1, 0, 1, entries(1, "a", "b", "c")...), drop(0, true)},
		{save(1, 0, 1, entries(1, "a", "b", "c")...), drop(0, false), save(2, 2, 1, entries(2, "d")...)},
		{save(1, 0, 1, entries(1, "a", "b", "c")...), drop(1, true), save(2, 2, 4, entries(2, "d")...), drop(3, true)},
		{save(1, 0, 1, entries(1, "a", "b", "c")...), drop(1, true), save(2, 2, 2, entries(2, "d")...), drop(1, false)},
		{save(1, 0, 1, entries(1, "a", "b", "c")...), drop(1, false), save(2, 2, 2, entries(2, "d")...)},
		{save(1, 0, 1, entries(1, "a", "b", "c")...), drop(3, true), drop(3, true), save(2, 2, 4, entries(2, "d")...)},
		{save(1, 0, 1, entries(1, "a", "b", "c")...), drop(4, true), save(2, 2, 5, entries(2, "d")...)},
		{save(1, 0, 1, entries(1, "a", "b", "c")...), drop(100, true), drop(200, false), save(2, 2, 201, entries(2, "d")...)},
	} {
		for _, cut := range []int{-1, 0, 1, 20, 1 << 30} {
			d := made(t, 2, 40000)
			w, s := opened(t, d, 0), wal.State{Vote: -1}
			for _, c := range l {
				comes(t, c.String(), c.do(w), api.OK)
				s = c.after(s)
				is(t, c.String(), w, s)
				again(t, c.String(), d, 0, []int{cut, cut}, s)
			}
			is(t, "at last", w, s)
		}
		d := made(t, 2, 40000) // and each call of a log that was opened for it
		s := wal.State{Vote: -1}
		for _, c := range l {
			w := again(t, c.String(), d, 0, nil, s)
			comes(t, c.String(), c.do(w), api.OK)
			s = c.after(s)
			is(t, c.String(), w, s)
		}
		again(t, "at last", d, 0, nil, s)
	}
}

// P14.1: a log has two tracks, and leaves all others alone.
func TestTracks(t *testing.T) {
	d := made(t, 6, 2000)
	for i := range 6 {
		if i < 2 || i > 3 {
			d.Append(i, []byte("other bytes"))
			d.Sync(i)
		}
	}
	w := opened(t, d, 2)
	s := wal.State{Vote: -1}
	for i := range uint64(200) {
		c := save(i, 0, i+1, entry(i, "cell"))
		if i > 20 {
			comes(t, "Drop", w.Drop(i-20, true), api.OK)
			s = drop(i-20, true).after(s)
		}
		comes(t, c.String(), c.do(w), api.OK)
		s = c.after(s)
		is(t, c.String(), w, s)
	}
	again(t, "in between", d, 2, []int{0, 0, 0, 0, 0, 0}, s)
	for i := range 6 {
		p, _ := d.Read(i)
		if (i < 2 || i > 3) && string(p) != "other bytes" {
			t.Errorf("track %d: %q", i, p)
		}
	}
	x, y := made(t, 4, 2000), wal.State{Vote: -1}
	low, high := opened(t, x, 0), opened(t, x, 2)
	comes(t, "Save", low.Save(1, 1, 1, entries(1, "low")), api.OK)
	is(t, "the other one", high, y)
	comes(t, "Save", high.Save(2, 2, 1, entries(2, "high")), api.OK)
	comes(t, "Drop", low.Drop(1, false), api.OK)
	again(t, "low", x, 0, nil, wal.State{Term: 1, Vote: 1, Base: 1})
	again(t, "high", x, 2, nil, wal.State{Term: 2, Vote: 2, Log: entries(2, "high")})
}

// P14.2: what comes afterwards is durable too, though a whole state is written anew again and again.
func TestMany(t *testing.T) {
	d := made(t, 2, 300)
	w, s := did(t, d)
	for i := range uint64(600) { // turns of two bytes
		c := save(i, int(i%8)-1, s.Base+1+i%(uint64(len(s.Log))+1), entries(i, "abc", "")[:i%3%2+1]...)
		if len(s.Log) > 4 {
			c = drop(s.Base+i%4, true)
		}
		comes(t, c.String(), c.do(w), api.OK)
		s = c.after(s)
		is(t, c.String(), w, s)
		if i%5 == 0 {
			w = again(t, c.String(), d, 0, nil, s)
		}
	}
}
