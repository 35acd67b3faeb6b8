package heap_test

import (
	"runtime/debug"
	"slices"
	"testing"

	"battledore/api"
	"battledore/heap"
)

// P9.3: first what the roots are, in their order, then the parts of what is placed.
func TestOrder(t *testing.T) {
	h := made(t, 100)
	a, b, c, d := putText(t, h, "a"), putText(t, h, "b"), putText(t, h, "c"), putText(t, h, "d")
	ab := put(t, h, heap.KTuple, []word{b, a})
	put(t, h, heap.KTuple, []word{ab, d})
	cd := put(t, h, heap.KCon, []word{num(4), d, c, ab})
	e := put(t, h, heap.KRef, []word{cd})
	h.Collect([]*word{&ab, &e})
	isHeap(t, h, 1,
		1+512, at(5), at(7), // ab
		4+256, at(9), // e
		3+256, 'b', 3+256, 'a', // the parts of ab
		2+4*256, num(4), at(14), at(16), at(0), // cd
		3+256, 'd', 3+256, 'c')
	if ab != 0 || e != at(3) || cd == at(9) || a != at(0) {
		t.Errorf("the roots are %d, %d", ab, e)
	}
	h.Collect([]*word{&e, &ab})
	if e != 0 || ab != at(2) || show(h, e, 5) != `4(2(4 "d" "c" 1("b" "a")))` {
		t.Errorf("the roots are %d, %d: %s", e, ab, show(h, e, 5))
	}
	isHeap(t, h, 2,
		4+256, at(5), 1+512, at(10), at(12),
		2+4*256, num(4), at(14), at(16), at(2),
		3+256, 'b', 3+256, 'a', 3+256, 'd', 3+256, 'c')
}

// P9.3: what isn't reached goes.
func TestGone(t *testing.T) {
	h := made(t, 30)
	for i := range 10 {
		putText(t, h, "gone")
		if i == 4 {
			put(t, h, heap.KRef, []word{at(2)})
		}
	}
	x := num(2)
	h.Collect([]*word{&x})
	if isHeap(t, h, 1); x != num(2) {
		t.Errorf("a number is %d", x)
	}
	putText(t, h, "gone")
	h.Collect(nil)
	isHeap(t, h, 2)
	h.Collect([]*word{})
	isHeap(t, h, 3)
	zero := word(0)
	h.Collect([]*word{&zero, nil, &zero})
	if isHeap(t, h, 4); zero != 0 {
		t.Errorf("the zero word of an empty heap is %d", zero)
	}
	if w := putText(t, h, "next"); w != 0 || h.Quota() != 30 {
		t.Errorf("the first object is %d", w)
	}
}

// P9.3: each object once, however often it is reached, also from itself.
func TestOnce(t *testing.T) {
	h := made(t, 100)
	putText(t, h, "gone")
	a := put(t, h, heap.KRef, []word{num(0)})
	b := put(t, h, heap.KTuple, []word{a, a, a})
	c := put(t, h, heap.KRef, []word{b})
	h.SetPart(a, 0, c)
	self := put(t, h, heap.KRef, []word{num(0)})
	h.SetPart(self, 0, self)
	x, y, z := c, c, b
	h.Collect([]*word{&x, &self, &y, &x, &z})
	isHeap(t, h, 1, 4+256, at(4), 4+256, at(2), 1+3*256, at(8), at(8), at(8), 4+256, at(0))
	if x != 0 || y != 0 || z != at(4) || self != at(2) {
		t.Errorf("the roots are %d, %d, %d, %d", x, y, z, self)
	}
	h.Collect([]*word{&z})
	isHeap(t, h, 2, 1+3*256, at(4), at(4), at(4), 4+256, at(6), 4+256, at(0))
}

// P9.3: a number, or a text, that looks like an object leads nowhere.
func TestNumbersLeadNowhere(t *testing.T) {
	h := made(t, 100)
	putText(t, h, "gone")
	putText(t, h, "gone")
	w := put(t, h, heap.KTuple, []word{num(0), num(1), num(2), num(1 << 61), num(-1)})
	s := putText(t, h, "\x00\x00\x00\x00\x00\x00\x00\x00\x04\x00\x00\x00\x00\x00\x00\x00")
	n := num(2)
	h.Collect([]*word{&n, &w, &s})
	isHeap(t, h, 1, 1+5*256, num(0), num(1), num(2), num(1<<61), num(-1), 3+16*256, 0, 4)
	if n != num(2) || w != 0 || s != at(6) {
		t.Errorf("the roots are %d, %d, %d", n, w, s)
	}
}

// P9.3: objects of no parts and no bytes, and of each kind.
func TestCollectKinds(t *testing.T) {
	h := made(t, 100)
	var l []word
	var roots []*word
	want := ""
	for range 2 {
		for _, kind := range otherKinds {
			l = append(l, put(t, h, kind, nil), put(t, h, kind, []word{num(int64(kind))}), putText(t, h, ""))
			want += string([]byte{'0' + kind}) + `()` + string([]byte{'0' + kind}) + `(` + string([]byte{'0' + kind}) + `)""`
		}
	}
	for i := range l {
		roots = append(roots, &l[i])
	}
	words, before := h.Words(), slices.Clone(l)
	h.Collect(roots)
	if isHeap(t, h, 1, words...); !slices.Equal(l, before) {
		t.Errorf("the roots are %v", l)
	}
	got := ""
	for _, w := range l {
		got += show(h, w, 3)
	}
	if got != want {
		t.Errorf("%s, not %s", got, want)
	}
}

// P1, P9.3: a list and a tree, as great as a heap can be.
func TestGreat(t *testing.T) {
	defer debug.SetMaxStack(debug.SetMaxStack(1 << 20))
	h := made(t, api.MaxWords)
	list, n := num(0), 0
	for h.Used()+3 <= api.MaxWords {
		list, n = put(t, h, heap.KTuple, []word{num(int64(n)), list}), n+1
	}
	soon(t, "a long list", func() {
		for range 5 {
			h.Collect([]*word{&list})
		}
	})
	if list != 0 || h.Used() != 3*n || h.Collections() != 5 {
		t.Fatalf("the list is at %d, %d used", list, h.Used())
	}
	for w := list; n > 0; n-- {
		if part(t, h, w, 0) != num(int64(n)-1) {
			t.Fatalf("%d, not %d", part(t, h, w, 0), n-1)
		}
		w = part(t, h, w, 1)
	}
	if w, e := h.Put(heap.KTuple, []word{num(1), list}, nil); e != api.ErrMem {
		t.Errorf("one more: %d, %d", w, e)
	}
	wide := make([]word, 1<<19)
	for i := range wide {
		wide[i] = num(int64(i))
	}
	h = made(t, api.MaxWords)
	w := put(t, h, heap.KTuple, wide)
	roots := make([]*word, 100000)
	for i := range roots {
		roots[i] = &w
	}
	soon(t, "many roots", func() { h.Collect(roots) })
	if h.Used() != 1+len(wide) || w != 0 || part(t, h, w, 77) != num(77) {
		t.Errorf("%d used", h.Used())
	}
}

// P1: a heap of which nothing is left but a few words, collected very often.
func TestOften(t *testing.T) {
	h := made(t, 1000)
	w := put(t, h, heap.KRef, []word{num(0)})
	soon(t, "many collections", func() {
		for i := range 500000 {
			h.SetPart(w, 0, putText(t, h, "0123456789", &w))
			if i%1000 == 0 {
				h.Collect([]*word{&w})
			}
		}
	})
	if show(h, w, 3) != `4("0123456789")` || h.Collections() < 1500 {
		t.Errorf("%s, %d collections", show(h, w, 3), h.Collections())
	}
}
