package wal_test

import (
	"strconv"
	"testing"

	"battledore/api"
	"battledore/drum"
	"battledore/wal"
)

// histories: what was done ahead of the call that is interrupted, and for how many bytes the tracks are. In the small ones there is no room to append it.
var histories = []struct {
	most int
	l    []call
}{
	{1000, nil},
	{1000, []call{save(1, 0, 1)}},
	{1000, []call{save(1, 0, 1, entries(1, "a", "b")...)}},
	{1000, []call{save(1, 0, 1, entries(1, "a")...), save(1, 0, 2, entries(1, "b", "c")...)}},
	{1000, []call{save(1, 0, 1, entries(1, "a", "b", "c")...), save(2, 1, 2, entries(2, "d")...), save(3, 2, 3)}},
	{1000, []call{save(1, 0, 1, entries(1, "a", "b", "c")...), drop(0, true)}},
	{1000, []call{save(1, 0, 1, entries(1, "a", "b", "c")...), drop(1, true), save(2, 1, 4, entries(2, "d")...)}},
	{1000, []call{save(1, 0, 1, entries(1, "a", "b", "c")...), drop(1, true), drop(2, true)}},
	{1000, []call{drop(9, false), drop(300, false), save(1, 0, 301, entries(1, "a", "b")...)}},
	{110, []call{save(1, 0, 1, entries(1, "a")...), save(1, 0, 2, entries(1, "b")...), save(1, 0, 3, entries(1, "c")...)}},
	{115, []call{save(1, 0, 1, entries(1, "a")...), save(1, 0, 2, entries(1, "b")...), save(1, 0, 3), save(1, 0, 3), save(1, 0, 3)}},
}

// calls that may be interrupted in a state.
func calls(s wal.State) []call {
	base, next := s.Base, s.Base+uint64(len(s.Log))+1
	l := []call{
		save(7, 4, base+1), save(7, -1, base+1, entries(7, "x")...), save(7, 4, base+1, entries(7, "x", "yy", "", "zzz")...),
		save(7, 4, next), save(7, 4, next, entries(7, "x")...), save(7, 4, next, entries(7, "x", "yy", "")...),
		drop(base, true), drop(base, false), drop(next-1, true), drop(next, true), drop(next+300, false),
	}
	if len(s.Log) > 1 {
		l = append(l, save(7, 4, base+2), save(7, 4, base+2, entries(7, "x")...), save(7, 4, next-1, entries(7, "x", "yy", "")...), drop(base+1, true), drop(base+1, false))
	}
	return l
}

// interrupted: the drum, and its log, when the power fails in the n-th operation of a call; nil, if the call has fewer.
func interrupted(t *testing.T, most int, l []call, c call, n int) (*drum.Drum, *wal.Wal) {
	t.Helper()
	d := made(t, 2, most)
	w, s := did(t, d, l...)
	d.Arm(n)
	e := c.do(w)
	if e == api.OK {
		return nil, nil
	}
	comes(t, c.String(), e, api.ErrCrash)
	is(t, "an interrupted "+c.String(), w, s)
	for _, c := range []call{c, save(1, 0, s.Base+1), drop(s.Base, true)} { // the power is off
		comes(t, c.String(), c.do(w), api.ErrCrash)
		is(t, "off, "+c.String(), w, s)
	}
	return d, w
}

// P14.3, P6: each call, interrupted in each of its operations, with each cut; what is done then is durable, in the log that is opened, and also in the one that was interrupted.
func TestInterrupted(t *testing.T) {
	for _, h := range histories {
		_, s := did(t, made(t, 2, h.most), h.l...)
		for _, c := range calls(s) {
			for n := 1; ; n++ {
				d, _ := interrupted(t, h.most, h.l, c, n)
				if d == nil {
					break
				}
				for cut := -1; cut <= 130; cut++ {
					d, w := interrupted(t, h.most, h.l, c, n)
					comes(t, "Restart", d.Restart([]int{cut, cut}), api.OK)
					is(t, "not opened", w, s)
					other := opened(t, d, 0)
					oneOf(t, c.String()+" at "+strconv.Itoa(n)+", cut "+strconv.Itoa(cut), other, c.torn(s))
					other = again(t, c.String(), d, 0, nil, other.State())
					if cut%2 == 0 {
						other = w
					}
					goesOn(t, d, other)
				}
			}
		}
	}
}

// goesOn asks that what is done now is durable.
func goesOn(t *testing.T, d *drum.Drum, w *wal.Wal) {
	t.Helper()
	s := w.State()
	for range 3 {
		last := s.Base + uint64(len(s.Log))
		c := save(8, 2, last, entries(8, "n")...)
		if len(s.Log) == 0 {
			c = save(8, 2, last+1, entries(8, "m")...)
		}
		comes(t, c.String(), c.do(w), api.OK)
		s = c.after(s)
		is(t, c.String(), w, s)
		again(t, c.String(), d, 0, []int{50, 50}, s)
	}
	again(t, "at last", d, 0, nil, s)
}

// P14.3: interrupted once more, in the log that was opened after the first time, and in the one that wasn't opened again: then also what the first call might have left may be there.
func TestInterruptedTwice(t *testing.T) {
	for _, h := range histories[1:] {
		_, s := did(t, made(t, 2, h.most), h.l...)
		for i, first := range calls(s) {
			second := calls(s)[(i+3)%11]
			for n := range 8 {
				for cut := -1; cut < 90; cut += 5 {
					twice(t, h.most, h.l, first, second, n, cut)
				}
			}
		}
	}
}

func twice(t *testing.T, most int, l []call, first, second call, n, cut int) {
	t.Helper()
	d, w := interrupted(t, most, l, first, n%2+1)
	if d == nil {
		return
	}
	s := w.State()
	may := append(first.torn(s), second.torn(s)...)
	d.Restart([]int{cut, cut})
	if n&2 != 0 {
		w = opened(t, d, 0)
		s = w.State()
		if first.drop || len(s.Log) < int(second.from-s.Base)-1 || second.drop && second.to < s.Base || !second.drop && second.from <= s.Base {
			return // then the second call isn't valid
		}
		may = second.torn(s)
	}
	d.Arm(n/4 + 1)
	comes(t, second.String(), second.do(w), api.ErrCrash)
	d.Restart([]int{89 - cut, 89 - cut})
	other := opened(t, d, 0)
	oneOf(t, first.String()+", "+second.String(), other, may)
	goesOn(t, d, other)
}

// P14.3: a Save that is interrupted loses none of the entries that were confirmed ahead of from, whatever was interrupted earlier.
func TestTornAndTorn(t *testing.T) {
	for cut := range 120 {
		d := made(t, 2, 1000)
		did(t, d, save(1, 0, 1, entries(1, "a", "b", "c")...))
		for i := range uint64(6) {
			w := opened(t, d, 0)
			s := w.State()
			d.Arm(int(i%2) + 1)
			c := save(2+i, 0, 4, entries(2+i, "xxx", "y", "zz")...)
			comes(t, c.String(), c.do(w), api.ErrCrash)
			d.Restart([]int{cut, 120 - cut})
			w = opened(t, d, 0)
			oneOf(t, c.String(), w, c.torn(s))
			for k, x := range entries(1, "a", "b", "c") {
				if string(w.State().Log[k].Cell) != string(x.Cell) {
					t.Fatalf("%s has gone", x.Cell)
				}
			}
			goesOnIf(t, d, w, cut%3 == 0)
		}
	}
}

func goesOnIf(t *testing.T, d *drum.Drum, w *wal.Wal, yes bool) {
	t.Helper()
	if !yes {
		return
	}
	s := w.State()
	c := save(50, 1, 4, entries(50, "q")...)
	comes(t, c.String(), c.do(w), api.OK)
	again(t, c.String(), d, 0, nil, c.after(s))
}
