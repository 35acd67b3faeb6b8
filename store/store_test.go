package store_test

import (
	"math"
	"testing"

	"battledore/api"
	"battledore/store"
)

// P15.1: a new store: nothing, for which nothing was written.
func TestNew(t *testing.T) {
	d := made(t, 2, 1)
	saved(t, d)
	again(t, "a new one", d, 0, nil, store.Snap{})
	if d.Ops() != 0 {
		t.Errorf("%d operations", d.Ops())
	}
}

// P15.1: what is saved, in memory, and on the drum, with any cuts, in a store that goes on, and in one that is opened for each snapshot.
func TestSave(t *testing.T) {
	for _, l := range [][]store.Snap{
		{{Index: 1}},
		{{Index: 1}, {Index: 2}, {Index: 3}},
		{{Index: math.MaxUint64, Term: math.MaxUint64}},
		{snap(1, 5, 10), snap(2, 3, 0), snap(9, 0, 700), snap(10, 1, 20)}, // terms aren't compared
		{snap(255, 1, 499), snap(256, 1, 500), snap(257, 1, 501), snap(1<<40, 1, 1000), snap(1<<63, 1, 1001), snap(1<<63+1, 2, 1)},
		{snap(3, 1, 4000), snap(4, 1, 30), snap(5, 1, 4100), snap(6, 1, 3)},
	} {
		for _, cut := range []int{-1, 0, 1, 20, 1 << 30} {
			d := made(t, 2, 5000)
			going, _ := saved(t, d)
			for _, s := range l {
				comes(t, told(s), going.Save(s), api.OK)
				is(t, told(s), going, s)
				again(t, told(s), d, 0, []int{cut, cut}, s)
			}
			d = made(t, 2, 5000)
			x := opened(t, d, 0)
			for _, s := range l {
				comes(t, told(s), x.Save(s), api.OK)
				is(t, told(s), x, s)
				x = again(t, told(s), d, 0, []int{cut, cut}, s)
			}
		}
	}
}

// P15.1: a store has two tracks, and leaves all others alone.
func TestTracks(t *testing.T) {
	d := made(t, 6, 2000)
	for _, i := range []int{0, 1, 4, 5} {
		d.Append(i, []byte("other bytes"))
		d.Sync(i)
	}
	x := opened(t, d, 2)
	for i := range uint64(20) {
		s := snap(i+1, i, int(i)*90)
		comes(t, told(s), x.Save(s), api.OK)
		again(t, told(s), d, 2, []int{0, 0, 0, 0, 0, 0}, s)
	}
	for _, i := range []int{0, 1, 4, 5} {
		if p, _ := d.Read(i); string(p) != "other bytes" {
			t.Errorf("track %d: %q", i, p)
		}
	}
	y := opened(t, d, 4)
	is(t, "the other one", y, store.Snap{})
	comes(t, "Save", y.Save(snap(1, 1, 5)), api.OK)
	again(t, "the other one", d, 4, nil, snap(1, 1, 5))
	again(t, "the first one", d, 2, nil, snap(20, 19, 19*90))
}

// P15.1: a snapshot is there if its bytes and 40 more are; else ErrFull, and everything stays as it is.
func TestFull(t *testing.T) {
	for _, most := range []int{40, 41, 100, 540, 1000, 4000, api.MaxTrack} {
		d := made(t, 2, most)
		x, old := saved(t, d, snap(1, 1, most-40))
		ops := d.Ops()
		for _, more := range []int{1, 2, 500, 5000} {
			comes(t, "too long", x.Save(snap(1<<63, math.MaxUint64, most+more)), api.ErrFull)
		}
		comes(t, "too long with its index", x.Save(snap(1<<63, math.MaxUint64, most)), api.ErrFull)
		if d.Ops() != ops {
			t.Errorf("%d operations for nothing", d.Ops()-ops)
		}
		is(t, "full", x, old)
		again(t, "full", d, 0, nil, old)
		last := snap(math.MaxUint64, math.MaxUint64, most-40)
		comes(t, told(last), x.Save(last), api.OK)
		again(t, told(last), d, 0, nil, last)
	}
	for most := 1; most < 40; most++ {
		d := made(t, 2, most)
		x := opened(t, d, 0)
		want := store.Snap{}
		switch e := x.Save(snap(1, 1, 3)); e {
		case api.OK:
			want = snap(1, 1, 3)
		default:
			comes(t, "a small track", e, api.ErrFull)
		}
		is(t, "a small track", x, want)
		again(t, "a small track", d, 0, nil, want)
	}
}

// P15.1: the chapter's example, and all indices that aren't above the present one.
func TestStale(t *testing.T) {
	d := made(t, 2, 1000)
	x := opened(t, d, 0)
	comes(t, "nothing", x.Save(store.Snap{Term: 5, Data: []byte("a")}), api.ErrStale)
	is(t, "nothing", x, store.Snap{})
	comes(t, "Save", x.Save(snap(3, 1, 7)), api.OK)
	ops := d.Ops()
	for range 2 {
		for _, index := range []uint64{0, 1, 2, 3} {
			comes(t, "stale", x.Save(snap(index, 9, 7)), api.ErrStale)
			comes(t, "stale, and too long", x.Save(snap(index, 9, 2000)), api.ErrStale)
		}
		is(t, "stale", x, snap(3, 1, 7))
		x = again(t, "stale", d, 0, nil, snap(3, 1, 7))
	}
	if d.Ops() != ops {
		t.Errorf("%d operations for nothing", d.Ops()-ops)
	}
	comes(t, "Save", x.Save(snap(4, 1, 7)), api.OK)
}

// P15.1: a snapshot is written piece by piece.
func TestPieces(t *testing.T) {
	if store.Chunk != 500 {
		t.Errorf("Chunk is %d", store.Chunk)
	}
	for _, n := range []int{0, 499, 501, 2200, 10000} {
		d := made(t, 2, 20000)
		saved(t, d, snap(1, 1, n))
		if least := n/store.Chunk + 1; d.Ops() <= least {
			t.Errorf("%d bytes in %d operations", n, d.Ops())
		}
	}
}
