package heap_test

import (
	"math"
	"testing"

	"battledore/api"
	"battledore/heap"
)

// P9.1: numbers as words, and back.
func TestNum(t *testing.T) {
	const least, greatest = -1 << 62, 1<<62 - 1
	for _, n := range []int64{0, 1, -1, 2, -2, 5, -5, 127, 128, -128, -129, 1000000, -1000000, 1<<31 - 1, -1 << 31, 1 << 32, 1 << 61, -1 << 61, greatest - 1, greatest, least + 1, least} {
		w := heap.Num(n)
		if w != heap.Word(uint64(2*n+1)) || !w.IsNum() || w.N() != n {
			t.Errorf("Num(%d) = %#x, %v, %d", n, uint64(w), w.IsNum(), w.N())
		}
	}
	for n, want := range map[int64]int64{greatest + 1: least, least - 1: greatest, greatest + 2: least + 1, math.MaxInt64: -1, math.MinInt64: 0, math.MinInt64 + 7: 7} {
		if w := heap.Num(n); w.N() != want || w != heap.Num(want) || !w.IsNum() {
			t.Errorf("Num(%d).N() = %d, not %d", n, w.N(), want)
		}
	}
	for w, want := range map[heap.Word]uint64{heap.Num(0): 1, heap.Num(-1): math.MaxUint64, heap.Num(3): 7, heap.Num(-5): math.MaxUint64 - 8, heap.Num(least): 1<<63 + 1, heap.Num(greatest): 1<<63 - 1} {
		if uint64(w) != want {
			t.Errorf("a number is the word %#x, not %#x", uint64(w), want)
		}
	}
	for _, w := range []heap.Word{0, 2, 4, 256, 1 << 62, 1 << 63, math.MaxUint64 - 1} {
		if w.IsNum() || (w|1).N() != int64(w)/2 || !(w | 1).IsNum() {
			t.Errorf("IsNum(%#x) = %v, IsNum(%#x) = %v", uint64(w), w.IsNum(), uint64(w|1), (w | 1).IsNum())
		}
	}
}

// P9.1: the kinds.
func TestKinds(t *testing.T) {
	for i, k := range []byte{heap.KTuple, heap.KCon, heap.KText, heap.KRef, heap.KFun, heap.KPrim} {
		if int(k) != i+1 {
			t.Errorf("the kind %d is %d", i+1, k)
		}
	}
}

// P9.1: how many words an object occupies.
func TestNeed(t *testing.T) {
	for kind := range byte(8) {
		if kind == heap.KText {
			continue
		}
		for _, n := range []int{0, 1, 2, 3, 7, 8, 9, 16, 17, 1000, 1<<20 - 1, 1 << 20, 1<<31 - 1} {
			if got := heap.Need(kind, n); got != 1+n {
				t.Errorf("Need(%d, %d) = %d", kind, n, got)
			}
		}
	}
	for n, want := range map[int]int{0: 1, 1: 2, 2: 2, 7: 2, 8: 2, 9: 3, 15: 3, 16: 3, 17: 4, 24: 4, 25: 5, 4095: 513, 4096: 513, 4097: 514, 1<<31 - 1: 1<<28 + 1} {
		if got := heap.Need(heap.KText, n); got != want {
			t.Errorf("Need(KText, %d) = %d, not %d", n, got, want)
		}
	}
	for kind := range 256 {
		for _, n := range []int{-1, -8, -9, math.MinInt} { // there are no parts
			if got := heap.Need(byte(kind), n); got != 1 {
				t.Errorf("Need(%d, %d) = %d", kind, n, got)
			}
		}
		heap.Need(byte(kind), math.MaxInt)
	}
}

// P9.1: New.
func TestNew(t *testing.T) {
	for _, quota := range []int{1, 2, 100, api.MaxWords - 1, api.MaxWords} {
		h, e := heap.New(quota)
		if e != api.OK || h.Quota() != quota || h.Used() != 0 || h.Collections() != 0 || len(h.Words()) != 0 {
			t.Errorf("New(%d): %d; a quota of %d, %d used", quota, e, h.Quota(), h.Used())
		}
	}
	for _, quota := range []int{0, -1, api.MaxWords + 1, math.MaxInt, math.MinInt} {
		if h, e := heap.New(quota); e != api.ErrArg || h != nil {
			t.Errorf("New(%d): %d", quota, e)
		}
	}
}
