package wal_test

import (
	"math"
	"strings"
	"testing"

	"battledore/api"
	"battledore/wal"
)

// wide: an entry whose numbers need the most bytes.
func wide(cell string) api.Entry {
	return api.Entry{Term: math.MaxUint64, Session: math.MaxUint64, Number: math.MaxUint64, Cell: []byte(cell)}
}

// need: for how many bytes a track must be that a state fits in any case.
func need(s wal.State) int {
	n := 60
	for _, x := range s.Log {
		n += 30 + len(x.Cell)
	}
	return n
}

// cellsOf: how many bytes the cells of a state have; in fewer there is no room for it.
func cellsOf(s wal.State) int {
	n := 0
	for _, x := range s.Log {
		n += len(x.Cell)
	}
	return n
}

// P14.2: there is room for what is kept, if an entry has its Cell and 30 bytes more, everything else 60; saved at once, and one by one, dropped, and saved again.
func TestRoom(t *testing.T) {
	great := strings.Repeat("c", api.MaxRecord)
	const base = uint64(1) << 61
	for _, cells := range [][]string{nil, {""}, {"a"}, {"", "", ""}, {"ab", great, ""}, {great, great, great}, {great[:255], great[:256], great[:257]}} {
		c := save(math.MaxUint64, api.MaxNodes-1, base+1)
		for _, s := range cells {
			c.l = append(c.l, wide(s))
		}
		start := wal.State{Vote: -1, Base: base}
		most := need(c.after(start))
		d := made(t, 2, most)
		w, _ := did(t, d, drop(base, false), c, drop(base, true), c)
		again(t, "at once", d, 0, nil, c.after(start))
		for range 9 {
			comes(t, "once more", c.do(w), api.OK)
			comes(t, "nothing else", w.Drop(base, true), api.OK)
		}
		again(t, "again and again", d, 0, nil, c.after(start))

		d = made(t, 2, most)
		w, s := did(t, d, drop(base, false))
		for i, x := range c.l {
			one := save(math.MaxUint64, api.MaxNodes-1, base+1+uint64(i), x)
			comes(t, one.String(), one.do(w), api.OK)
			s = one.after(s)
			is(t, one.String(), w, s)
		}
		again(t, "one by one", d, 0, nil, s)
	}
}

// P14.2: without room ErrFull, and everything stays as it is, also on the drum; what there is room for goes on.
func TestFull(t *testing.T) {
	for _, most := range []int{1, 40, 60, 100, 500, 1000} {
		d := made(t, 2, most)
		w, s := did(t, d)
		full := 0
		for i := range uint64(400) {
			c := save(i, 0, s.Base+uint64(len(s.Log))+1, entry(i, strings.Repeat("c", int(i*7%90))))
			if i%40 > 33 {
				c = save(i, 1, s.Base+uint64(len(s.Log))/2+1)
			} else if i%80 == 79 {
				c = drop(s.Base+uint64(len(s.Log))/2, true)
			}
			ops := d.Ops()
			e := c.do(w)
			switch {
			case e == api.OK && cellsOf(c.after(s)) <= most:
				s = c.after(s)
			case e == api.ErrFull && need(c.after(s)) > most && d.Ops() == ops:
				full++
			default:
				t.Fatalf("%d bytes, %s: %d", most, c.String(), e)
			}
			is(t, c.String(), w, s)
			if i%3 == 0 {
				again(t, c.String(), d, 0, []int{0, 0}, s)
			}
		}
		if full == 0 {
			t.Errorf("%d bytes: it is never full", most)
		}
		again(t, "at last", d, 0, nil, s)
	}
}

// P14.2: more than a track may ever have.
func TestMuchTooLong(t *testing.T) {
	d := made(t, 2, api.MaxTrack)
	w, s := did(t, d, save(1, 0, 1, entries(1, "a")...))
	var l []api.Entry
	for range api.MaxTrack/api.MaxRecord + 1 {
		l = append(l, entry(1, strings.Repeat("c", api.MaxRecord)))
	}
	comes(t, "too many", w.Save(2, 1, 1, l), api.ErrFull)
	is(t, "too many", w, s)
	again(t, "too many", d, 0, nil, s)
	for len(l) > 0 && need(wal.State{Log: l}) > api.MaxTrack {
		l = l[1:]
	}
	comes(t, "not too many", w.Save(2, 1, 1, l), api.OK)
	again(t, "not too many", d, 0, nil, wal.State{Term: 2, Vote: 1, Log: l})
}

// P14.2: small saves, till a great track is full: each is done soon.
func TestManySmall(t *testing.T) {
	d := made(t, 2, api.MaxTrack)
	w := opened(t, d, 0)
	last := uint64(0)
	for w.Save(1, 0, last+1, []api.Entry{{}}) == api.OK {
		last++
	}
	if need(wal.State{})+30*int(last+1) <= api.MaxTrack {
		t.Errorf("full with %d entries", last)
	}
	d.Restart(nil)
	if s := opened(t, d, 0).State(); uint64(len(s.Log)) != last || s.Term != 1 || s.Vote != 0 {
		t.Errorf("%d entries of %d", len(s.Log), last)
	}
}
