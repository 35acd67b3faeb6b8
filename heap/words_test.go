package heap_test

import (
	"math"
	"slices"
	"testing"

	"battledore/api"
	"battledore/heap"
)

// P9.4: a heap that is loaded goes on as the one that its words are of.
func TestLoad(t *testing.T) {
	h := made(t, 20)
	a := putText(t, h, "abcdefghi")
	b := put(t, h, heap.KTuple, []word{a, num(-5)})
	c := put(t, h, heap.KRef, []word{b})
	putText(t, h, "gone")
	h.Collect([]*word{&a, &b, &c})
	g := loaded(t, 20, h.Words()...)
	if g.Quota() != 20 || g.Collections() != 0 || g.Used() != h.Used() || show(g, c, 5) != `4(1("abcdefghi" -5))` {
		t.Fatalf("%d used, %s", g.Used(), show(g, c, 5))
	}
	for _, x := range []*heap.Heap{h, g} {
		d := put(t, x, heap.KCon, []word{num(1), a})
		if d != at(8) || x.SetPart(c, 0, d) != api.OK || show(x, c, 5) != `4(2(1 "abcdefghi"))` {
			t.Errorf("%s at %d", show(x, c, 5), d)
		}
		e := c
		for range 4 {
			put(t, x, heap.KTuple, []word{num(1), num(2), num(3)}, &e)
		}
		if show(x, e, 5) != `4(2(1 "abcdefghi"))` {
			t.Errorf("%s", show(x, e, 5))
		}
	}
	if !slices.Equal(g.Words(), h.Words()) || g.Collections() != 1 || h.Collections() != 2 {
		t.Errorf("%v and %v", g.Words(), h.Words())
	}
}

// P9.4: the quota, and the order of errors.
func TestLoadQuota(t *testing.T) {
	for _, quota := range []int{0, -1, api.MaxWords + 1, math.MinInt, math.MaxInt} {
		for _, l := range [][]word{nil, {5}, {0}, make([]word, 10)} {
			if h, e := heap.Load(quota, l); e != api.ErrArg || h != nil {
				t.Errorf("Load(%d, %v): %d", quota, l, e)
			}
		}
	}
	for _, quota := range []int{1, 2, 3, 100, api.MaxWords} {
		l := []word{first(heap.KTuple, quota-1)}
		for range quota - 1 {
			l = append(l, num(3))
		}
		if h := loaded(t, quota, l...); h.Used() != quota || h.Len(0) != quota-1 {
			t.Errorf("a quota of %d: %d used", quota, h.Used())
		}
		if h, e := heap.Load(quota, make([]word, quota)); e != api.ErrForm || h != nil {
			t.Errorf("a quota of %d, no objects: %d", quota, e)
		}
		for _, l := range [][]word{make([]word, quota+1), append(l, num(3)), append(l, 5)} {
			if h, e := heap.Load(quota, l); e != api.ErrLong || h != nil {
				t.Errorf("a quota of %d, a word more: %d", quota, e)
			}
		}
		if h := loaded(t, quota); h.Used() != 0 || h.Quota() != quota {
			t.Errorf("a quota of %d, no words: %d used", quota, h.Used())
		}
	}
}

// P9.4: words that are objects, and words that aren't.
func TestLoadForm(t *testing.T) {
	for _, l := range [][]word{
		{first(heap.KTuple, 0)},
		{first(heap.KText, 0), first(heap.KPrim, 0)},
		{first(heap.KTuple, 1), 0},
		{first(heap.KTuple, 1), num(-1)},
		{first(heap.KRef, 1), at(2), first(heap.KRef, 1), at(0)},
		{first(heap.KFun, 2), at(3), at(5), first(heap.KText, 8), 0, first(heap.KCon, 1), at(3)},
		{first(heap.KText, 1), 4, first(heap.KText, 9), math.MaxUint64, math.MaxUint64 - 1},
		{first(heap.KPrim, 1), 257, first(heap.KPrim, 1), at(0)},
	} {
		h := loaded(t, 10, l...)
		isHeap(t, h, 0, l...)
	}
	for _, l := range [][]word{
		{0}, {7}, {8}, {255}, {256}, {256 + 7}, {math.MaxUint64}, // the kind
		{first(heap.KTuple, 0), 0},
		{first(heap.KTuple, 0), 0x100},
		{first(heap.KTuple, 1)}, // how many
		{first(heap.KTuple, 3), 1, 1},
		{first(heap.KText, 1)},
		{first(heap.KText, 9), 1},
		{first(heap.KText, 17), 1, 1},
		{first(heap.KTuple, 1), 1, first(heap.KTuple, 1)},
		{first(heap.KTuple, 1<<20), 1},
		{first(heap.KTuple, 1<<32), 1},
		{first(heap.KTuple, 1<<55), 1},
		{first(heap.KText, 1<<56-1), 1},
		{first(heap.KTuple, 1<<56-1), 1},
		{first(heap.KTuple, 1<<32+1), 1},
		{first(heap.KText, 1<<35+1), 1},
		{first(heap.KTuple, 1), 2}, // what is no object
		{first(heap.KTuple, 1), at(2)},
		{first(heap.KTuple, 1), at(1 << 30)},
		{first(heap.KTuple, 1), 1 << 63},
		{first(heap.KTuple, 1), math.MaxUint64 - 1},
		{first(heap.KTuple, 1), at(3), first(heap.KTuple, 2), first(heap.KTuple, 0), 1},
		{first(heap.KTuple, 1), at(3), first(heap.KText, 8), 5},
		{first(heap.KRef, 2), at(3), at(2), first(heap.KPrim, 0)},
		{first(heap.KPrim, 1), at(1), first(heap.KPrim, 0)},
		{first(heap.KPrim, 1), 1, first(heap.KText, 1), 1, first(heap.KPrim, 1), at(6)},
	} {
		if h, e := heap.Load(10, l); e != api.ErrForm || h != nil {
			t.Errorf("Load(10, %v): %d", l, e)
		}
	}
}

// P9.4: what a word has after the bytes of a text stays there, and plays no part.
func TestAfterText(t *testing.T) {
	h := loaded(t, 20,
		first(heap.KText, 4), 5,
		first(heap.KText, 3), 0xffeeddcc00636261,
		first(heap.KRef, 1), at(2),
		first(heap.KText, 0),
		first(heap.KText, 9), 0x6867666564636261, 0xfffffffffffffe69)
	a, b, c := at(4), at(7), at(6)
	if h.Text(at(2)) != "abc" || show(h, a, 2) != `4("abc")` || h.Text(b) != "abcdefghi" || h.Text(c) != "" {
		t.Errorf("%s, %q", show(h, a, 2), h.Text(b))
	}
	g := h.Copy()
	h.Collect([]*word{&b, &a})
	want := []word{first(heap.KText, 9), 0x6867666564636261, 0xfffffffffffffe69, first(heap.KRef, 1), at(5), first(heap.KText, 3), 0xffeeddcc00636261}
	if isHeap(t, h, 1, want...); show(h, a, 2) != `4("abc")` || h.Text(b) != "abcdefghi" {
		t.Errorf("%s, %q", show(h, a, 2), h.Text(b))
	}
	isHeap(t, g, 0, first(heap.KText, 4), 5, first(heap.KText, 3), 0xffeeddcc00636261, first(heap.KRef, 1), at(2), first(heap.KText, 0), first(heap.KText, 9), 0x6867666564636261, 0xfffffffffffffe69)
	isHeap(t, loaded(t, 7, want...), 0, want...)
}

// P9.4: a copy has its own memory, and goes on like the first one.
func TestCopy(t *testing.T) {
	h := made(t, 12)
	putText(t, h, "gone")
	a := putText(t, h, "a")
	b := put(t, h, heap.KRef, []word{a})
	h.Collect([]*word{&b})
	words := h.Words()
	g := h.Copy()
	if isHeap(t, g, 1, words...); g.Quota() != 12 {
		t.Errorf("a quota of %d", g.Quota())
	}
	h.SetPart(b, 0, num(7))
	put(t, h, heap.KTuple, []word{b, b, b})
	isHeap(t, g, 1, words...)
	x := put(t, g, heap.KCon, []word{num(-1)})
	if x != at(4) || show(g, b, 3) != `4("a")` || show(h, b, 3) != `4(7)` || show(h, at(4), 2) != `1(4(7) 4(7) 4(7))` {
		t.Errorf("%s and %s", show(g, b, 3), show(h, b, 3))
	}
	h.Collect(nil)
	isHeap(t, h, 2)
	isHeap(t, g, 1, append(words, first(heap.KCon, 1), num(-1))...)
	for range 3 {
		putText(t, g, "0123456789", &b)
	}
	if isHeap(t, h, 2); show(g, b, 3) != `4("a")` || g.Collections() != 2 {
		t.Errorf("%s, %d collections", show(g, b, 3), g.Collections())
	}
	isHeap(t, made(t, 3).Copy(), 0)
}

// P9.4: a copy shares no spare memory either, of which there is some behind a collection.
func TestCopySpare(t *testing.T) {
	h := made(t, 100)
	put(t, h, heap.KTuple, make([]word, 50))
	h.Collect(nil)
	g := h.Copy()
	put(t, h, heap.KTuple, nil)
	put(t, h, heap.KRef, nil)
	put(t, g, heap.KCon, []word{num(8)})
	isHeap(t, h, 1, first(heap.KTuple, 0), first(heap.KRef, 0))
	isHeap(t, g, 1, first(heap.KCon, 1), num(8))
	if h.Kind(at(1)) != heap.KRef || g.Kind(at(1)) != 0 || part(t, g, 0, 0) != num(8) {
		t.Errorf("the kinds %d and %d", h.Kind(at(1)), g.Kind(at(1)))
	}
}

// spoil overwrites all that a caller can get at, the spare capacity included.
func spoil(l []word) {
	l = l[:cap(l)]
	for i := range l {
		l[i] = 1<<63 + 2
	}
}

// The rules on memory: what is passed isn't kept, and isn't modified where nothing is collected; results are new.
func TestMemory(t *testing.T) {
	l := append(make([]word, 0, 9), first(heap.KTuple, 2), num(1), at(3), first(heap.KText, 8), 'x', num(9))
	before := slices.Clone(l)
	h := loaded(t, 100, l[:5]...)
	if !slices.Equal(l, before) {
		t.Fatalf("Load changes its words to %v", l)
	}
	spoil(l)
	parts := append(make([]word, 0, 4), at(0), num(5), num(6), num(7))
	roots := []*word{&parts[0], nil, &parts[3]}
	w := put(t, h, heap.KCon, parts[:2], roots...)
	if !slices.Equal(parts, []word{at(0), num(5), num(6), num(7)}) || roots[0] != &parts[0] || roots[1] != nil || roots[2] != &parts[3] {
		t.Errorf("Put changes the parts to %v", parts)
	}
	spoil(parts)
	want := append(before[:5:5], first(heap.KCon, 2), at(0), num(5))
	isHeap(t, h, 0, want...)
	got := h.Words()
	spoil(got)
	put(t, h, heap.KPrim, nil)
	want = append(want, first(heap.KPrim, 0))
	spoil(h.Copy().Words())
	g := h.Copy()
	put(t, g, heap.KRef, []word{w})
	h.Collect([]*word{&w})
	isHeap(t, g, 0, append(want, first(heap.KRef, 1), at(5))...)
	spoil(h.Words())
	isHeap(t, h, 1, first(heap.KCon, 2), at(3), num(5), first(heap.KTuple, 2), num(1), at(6), first(heap.KText, 8), 'x')
	roots[0], roots[2] = nil, nil // they aren't kept either
	h.Collect(nil)
	isHeap(t, h, 2)
}
