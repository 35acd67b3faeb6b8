package wal_test

import (
	"bytes"
	"math"
	"math/rand"
	"strings"
	"testing"

	"battledore/api"
	"battledore/drum"
	"battledore/octet"
	"battledore/wal"
)

func fails(t *testing.T, what string, d *drum.Drum, a int, want api.Errno) {
	t.Helper()
	if w, e := wal.Open(d, a); w != nil || e != want {
		t.Errorf("%s: Open(%d) = %v, %d, want %d", what, a, w, e, want)
	}
}

// P14.1: no drum, no tracks, no power, in this order.
func TestOpenErrors(t *testing.T) {
	for _, a := range []int{0, 1, -1, math.MaxInt, math.MinInt} {
		fails(t, "no drum", nil, a, api.ErrNone)
	}
	for tracks := 1; tracks <= api.MaxTracks; tracks++ {
		d := made(t, tracks, 100)
		for _, on := range []bool{true, false} {
			if !on {
				d.Arm(1)
				d.Sync(0)
			}
			for _, a := range []int{-1, -2, tracks - 1, tracks, tracks + 1, math.MaxInt, math.MaxInt - 1, math.MinInt} {
				fails(t, "no tracks", d, a, api.ErrArg)
			}
			for a := range tracks - 1 {
				if on {
					opened(t, d, a)
				} else {
					fails(t, "no power", d, a, api.ErrCrash)
				}
			}
		}
	}
}

// P14.2: no log.
func TestNoLog(t *testing.T) {
	var w *wal.Wal
	if s := w.State(); s.Term != 0 || s.Vote != 0 || s.Base != 0 || len(s.Log) != 0 {
		t.Errorf("%s", told(s))
	}
	for _, v := range []int{-2, 0, 99} {
		comes(t, "Save", w.Save(1, v, 0, []api.Entry{{Cell: make([]byte, api.MaxRecord+1)}}), api.ErrNone)
		comes(t, "Save", w.Save(1, v, 1, nil), api.ErrNone)
		comes(t, "Drop", w.Drop(uint64(v), v > 0), api.ErrNone)
	}
}

// P14.2: wrong votes and indices, cells that are too long, a drum that is off, in this order; nothing is changed.
func TestWrongCalls(t *testing.T) {
	long := []api.Entry{entry(1, "a"), entry(1, strings.Repeat("c", api.MaxRecord+1)), entry(1, "b")}
	fine := []api.Entry{entry(1, strings.Repeat("c", api.MaxRecord))}
	for _, on := range []bool{true, false} {
		d := made(t, 2, 9000)
		w, s := did(t, d, save(1, 0, 1, entries(1, "a", "b", "c", "d")...), drop(2, true))
		ops := d.Ops()
		want := api.OK
		if !on {
			d.Arm(1)
			d.Sync(0)
			want = api.ErrCrash
		}
		for _, l := range [][]api.Entry{nil, fine, long} {
			for _, v := range []int{-2, -3, api.MaxNodes, 100, math.MaxInt, math.MinInt} {
				comes(t, "a wrong vote", w.Save(1, v, 3, l), api.ErrArg)
			}
			for _, from := range []uint64{0, 1, 2, 6, 7, 1 << 40, 1 << 63, math.MaxUint64} {
				comes(t, "a wrong index", w.Save(1, 0, from, l), api.ErrArg)
			}
		}
		for from := range uint64(3) {
			comes(t, "a long cell", w.Save(2, 1, 3+from, long), api.ErrLong)
			comes(t, "a long cell", w.Save(2, 1, 3+from, long[1:2]), api.ErrLong)
		}
		for _, to := range []uint64{0, 1} {
			comes(t, "a wrong base", w.Drop(to, true), api.ErrArg)
			comes(t, "a wrong base", w.Drop(to, false), api.ErrArg)
		}
		if on && d.Ops() != ops {
			t.Errorf("%d operations for nothing", d.Ops()-ops)
		}
		is(t, "wrong calls", w, s)
		for _, c := range []call{save(3, -1, 3, fine...), save(3, api.MaxNodes-1, 4), drop(2, true), drop(2, false), drop(9, true)} {
			comes(t, c.String(), c.do(w), want)
			if on {
				s = c.after(s)
			}
			is(t, c.String(), w, s)
		}
		again(t, "at last", d, 0, nil, s)
	}
}

// P1: indices of which nothing is promised.
func TestGreatIndices(t *testing.T) {
	for _, base := range []uint64{1<<61 + 1, 1 << 63, math.MaxUint64 - 1, math.MaxUint64} {
		d := made(t, 2, 1000)
		w := opened(t, d, 0)
		w.Drop(base, false)
		for _, from := range []uint64{0, 1, base, base + 1, base + 2, math.MaxUint64} {
			w.Save(1, 0, from, entries(1, "a", "b"))
			w.Save(1, 0, from, nil)
			w.State()
			d.Restart(nil)
			opened(t, d, 0).State()
		}
		w.Drop(math.MaxUint64, true)
		w.Drop(0, true)
	}
}

// P1, P14.2: tracks with bytes that no log has written: whatever they count as, what is saved then is durable.
func TestAnyTracks(t *testing.T) {
	rnd := rand.New(rand.NewSource(1))
	d := made(t, 2, 1000)
	did(t, d, save(1, 0, 1, entries(1, "a", "b")...), save(2, 1, 2, entries(2, "c", "d")...))
	x, _ := d.Read(0)
	y, _ := d.Read(1)
	for i := range 20000 {
		d := made(t, 2, 1000)
		for k := range 2 {
			p := append(bytes.Clone(x), y...)
			switch (i + k) % 4 {
			case 0:
				p[rnd.Intn(len(p))] ^= 1 << rnd.Intn(8)
			case 1:
				at := rnd.Intn(len(p))
				p = append(p[:at:at], p[rnd.Intn(len(p)):]...)
			case 2:
				p = anyFrames(rnd)
			case 3:
				p = make([]byte, rnd.Intn(40))
				rnd.Read(p)
			}
			d.Write(k, p)
			d.Sync(k)
		}
		w := opened(t, d, 0)
		s := w.State()
		if s.Vote < -1 || s.Vote >= api.MaxNodes {
			t.Fatalf("it is %s", told(s))
		}
		again(t, "any tracks", d, 0, nil, s)
		c := save(5, 1, s.Base+1, entries(5, "new")...)
		comes(t, c.String(), c.do(w), api.OK)
		again(t, c.String(), d, 0, nil, c.after(s))
	}
}

// anyFrames: sealed bytes of random numbers, one behind the other.
func anyFrames(rnd *rand.Rand) []byte {
	out := &octet.Writer{}
	for range rnd.Intn(5) {
		w := &octet.Writer{}
		for range rnd.Intn(9) {
			if rnd.Intn(20) == 0 {
				w.Uint(rnd.Uint64() >> rnd.Intn(64))
			} else {
				w.Uint(uint64(rnd.Intn(4)))
			}
		}
		out.Bytes(octet.Seal(w.Done()))
	}
	return out.Done()
}
