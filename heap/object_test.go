package heap_test

import (
	"math"
	"slices"
	"strings"
	"testing"

	"battledore/api"
	"battledore/heap"
)

// otherKinds: the kinds that have parts.
var otherKinds = []byte{heap.KTuple, heap.KCon, heap.KRef, heap.KFun, heap.KPrim}

// P9.2: objects of each kind, one after the other.
func TestPut(t *testing.T) {
	h := made(t, 1000)
	used := 0
	for _, kind := range otherKinds {
		for _, n := range []int{0, 1, 2, 3, 30} {
			parts := make([]word, n)
			for i := range parts {
				parts[i] = num(int64(i) - 2)
			}
			w := put(t, h, kind, parts)
			if w != at(used) || h.Used() != used+1+n {
				t.Fatalf("the kind %d of %d: at %d, %d used", kind, n, w, h.Used())
			}
			used = h.Used()
			for i := range parts {
				if part(t, h, w, i) != parts[i] {
					t.Errorf("the kind %d of %d: the part %d is %d", kind, n, i, part(t, h, w, i))
				}
			}
			if h.Text(w) != "" {
				t.Errorf("the kind %d of %d has the text %q", kind, n, h.Text(w))
			}
		}
	}
	for _, n := range []int{0, 1, 7, 8, 9, 16, 17, 100} {
		w := putText(t, h, strings.Repeat("é\x00\xff", n)[:n])
		if w != at(used) || h.Used() != used+heap.Need(heap.KText, n) {
			t.Fatalf("a text of %d: at %d, %d used", n, w, h.Used())
		}
		used = h.Used()
	}
	if h.Collections() != 0 || h.Quota() != 1000 {
		t.Errorf("%d collections", h.Collections())
	}
}

// P9.2, P9.4: objects as words.
func TestPutWords(t *testing.T) {
	h := made(t, 100)
	a := putText(t, h, "abcdefghi")
	b := put(t, h, heap.KTuple, []word{a, num(-5)})
	put(t, h, heap.KCon, []word{num(300), b})
	put(t, h, heap.KFun, nil)
	putText(t, h, "")
	putText(t, h, "\x01\x00\x00\x00\x00\x00\x00\xff")
	isHeap(t, h, 0,
		3+256*9, 0x6867666564636261, 0x69,
		1+256*2, 0, 0xfffffffffffffff7,
		2+256*2, 601, 6,
		5,
		3,
		3+256*8, 0xff00000000000001)
}

// P9.2: the limit: there is room up to the last word.
func TestQuota(t *testing.T) {
	for _, quota := range []int{1, 2, 5, 100, api.MaxWords} {
		h := made(t, quota)
		w := put(t, h, heap.KTuple, make([]word, quota-1))
		if h.Used() != quota || h.Collections() != 0 {
			t.Errorf("a quota of %d: %d used, %d collections", quota, h.Used(), h.Collections())
		}
		if v, e := h.Put(heap.KTuple, nil, []*word{&w}); e != api.ErrMem || v != 0 || h.Used() != quota || h.Collections() != 1 {
			t.Errorf("a quota of %d, and one more: %d, %d", quota, v, e)
		}
		h = made(t, quota)
		if v, e := h.Put(heap.KTuple, make([]word, quota), nil); e != api.ErrMem || v != 0 || h.Used() != 0 || h.Collections() != 1 {
			t.Errorf("a quota of %d, as many parts: %d, %d", quota, v, e)
		}
		h = made(t, quota)
		if putText(t, h, strings.Repeat("x", 8*(quota-1))); h.Used() != quota || h.Collections() != 0 {
			t.Errorf("a quota of %d, a text: %d used", quota, h.Used())
		}
		h = made(t, quota)
		if v, e := h.PutText(strings.Repeat("x", 8*(quota-1)+1), nil); e != api.ErrMem || v != 0 || h.Used() != 0 || h.Collections() != 1 {
			t.Errorf("a quota of %d, a byte more: %d, %d", quota, v, e)
		}
	}
}

// P9.2, the chapter's example.
func TestExample(t *testing.T) {
	h := made(t, 2)
	a := putText(t, h, "abc")
	b := putText(t, h, "abc")
	if a != b || h.Used() != 2 || h.Collections() != 1 {
		t.Errorf("%d and %d, %d used, %d collections", a, b, h.Used(), h.Collections())
	}
	if c, e := h.PutText("abc", []*word{&b}); e != api.ErrMem || c != 0 || h.Text(b) != "abc" || h.Collections() != 2 {
		t.Errorf("with a root: %d, %d", c, e)
	}
}

// P9.2: a collection keeps what the roots, and the parts, reach; all words of both are updated.
func TestPutCollects(t *testing.T) {
	h := made(t, 9)
	putText(t, h, "gone")
	a := putText(t, h, "a")
	b := putText(t, h, "b")
	c := put(t, h, heap.KRef, []word{b})
	d := put(t, h, heap.KPrim, nil)
	parts := []word{a, num(7), c, a}
	w := put(t, h, heap.KTuple, parts[:2], &d)
	if h.Collections() != 1 || w != at(3) || d != at(0) {
		t.Fatalf("at %d, the root at %d, %d collections", w, d, h.Collections())
	}
	isHeap(t, h, 1, 6, 3+256, 'a', 1+512, at(1), num(7))
	if !slices.Equal(parts, []word{at(1), num(7), c, a}) {
		t.Errorf("the parts are %v", parts)
	}

	h = made(t, 11)
	putText(t, h, "gone")
	a = putText(t, h, "a")
	b = putText(t, h, "b")
	c = put(t, h, heap.KRef, []word{b})
	d = put(t, h, heap.KPrim, nil)
	parts = []word{a, num(7), c}
	w = put(t, h, heap.KTuple, parts, &d, &c)
	isHeap(t, h, 1, 6, 4+256, at(5), 3+256, 'a', 3+256, 'b', 1+3*256, at(3), num(7), at(1))
	if c != at(1) || d != 0 || w != at(7) || !slices.Equal(parts, []word{at(3), num(7), at(1)}) {
		t.Errorf("the roots are %d and %d, the parts %v", c, d, parts)
	}
}

// P9.2: with ErrMem the heap was collected, too, and the words are updated.
func TestErrMem(t *testing.T) {
	h := made(t, 8)
	putText(t, h, "gone")
	a, b := putText(t, h, "a"), putText(t, h, "b")
	parts := []word{num(1), b, num(2), b}
	if w, e := h.Put(heap.KTuple, parts, []*word{&a}); e != api.ErrMem || w != 0 {
		t.Fatalf("Put = %d, %d", w, e)
	}
	isHeap(t, h, 1, 3+256, 'a', 3+256, 'b')
	if a != 0 || !slices.Equal(parts, []word{num(1), at(2), num(2), at(2)}) {
		t.Errorf("the root is %d, the parts are %v", a, parts)
	}
	b = parts[1]
	if w, e := h.PutText(strings.Repeat("x", 41), []*word{&b}); e != api.ErrMem || w != 0 || b != 0 || h.Text(b) != "b" {
		t.Errorf("PutText = %d, %d; the root is %d", w, e, b)
	}
	isHeap(t, h, 2, 3+256, 'b')
	if w, e := h.PutText(strings.Repeat("x", 1000), []*word{&b}); e != api.ErrMem || w != 0 {
		t.Errorf("PutText = %d, %d", w, e)
	}
	isHeap(t, h, 3, 3+256, 'b')
	putText(t, h, strings.Repeat("x", 40), &b)
	isHeap(t, h, 3, 3+256, 'b', 3+40*256, 0x7878787878787878, 0x7878787878787878, 0x7878787878787878, 0x7878787878787878, 0x7878787878787878)
}

// P9.2: a word that is a root twice, or a root and a part, is updated once.
func TestSameWord(t *testing.T) {
	h := made(t, 12)
	putText(t, h, "gone")
	stack := []word{putText(t, h, "a"), putText(t, h, "b"), putText(t, h, "c"), num(5)}
	roots := []*word{&stack[2], &stack[1], &stack[2], &stack[3], &stack[1], &stack[0]}
	w, e := h.Put(heap.KTuple, stack[1:], roots)
	if e != api.OK || h.Collections() != 0 {
		t.Fatalf("Put = %d, %d", w, e)
	}
	w, e = h.Put(heap.KTuple, stack[1:], roots)
	if e != api.OK || !slices.Equal(stack, []word{at(4), at(2), 0, num(5)}) {
		t.Errorf("Put = %d, %d; %v", w, e, stack)
	}
	isHeap(t, h, 1, 3+256, 'c', 3+256, 'b', 3+256, 'a', 1+3*256, at(2), 0, num(5))
	parts := []word{w, w}
	v := put(t, h, heap.KCon, parts, &w, &parts[1])
	if part(t, h, v, 0) != w || part(t, h, v, 1) != w || !slices.Equal(parts, []word{w, w}) || show(h, v, 5) != `2(1("b" "c" 5) 1("b" "c" 5))` {
		t.Errorf("%v, %s", parts, show(h, v, 5))
	}
}

// P9.2: what is no object has no kind, no parts and no text: a number, what is beyond the last object, what is within one, though it looks like a first word.
func TestNoObject(t *testing.T) {
	h := made(t, 100)
	in := num(128) // the first word of a tuple of one would look like that
	put(t, h, heap.KTuple, []word{in, in, in})
	putText(t, h, "\x01\x01\x00\x00\x00\x00\x00\x00\x03\x01")
	put(t, h, heap.KRef, []word{num(1)})
	used := h.Words()
	firsts := []word{at(0), at(4), at(7)}
	var none []word
	for i := range h.Used() + 10 {
		none = append(none, at(i))
	}
	none = append(none, num(0), num(1), num(-1), num(4), 1<<63, 1<<63+8, math.MaxUint64-1, math.MaxUint64, 1<<32, 1<<33, at(api.MaxWords))
	for _, w := range none {
		if slices.Contains(firsts, w) {
			continue
		}
		if h.Kind(w) != 0 || h.Len(w) != 0 || h.Text(w) != "" {
			t.Errorf("%d: the kind %d of %d, %q", w, h.Kind(w), h.Len(w), h.Text(w))
		}
		for _, i := range []int{0, 1, -1} {
			if v, e := h.Part(w, i); v != 0 || e != api.ErrArg {
				t.Errorf("Part(%d, %d) = %d, %d", w, i, v, e)
			}
			if e := h.SetPart(w, i, num(3)); e != api.ErrArg {
				t.Errorf("SetPart(%d, %d): %d", w, i, e)
			}
		}
	}
	isHeap(t, h, 0, used...)
	for i, w := range firsts {
		if k := []byte{heap.KTuple, heap.KText, heap.KRef}[i]; h.Kind(w) != k || h.Len(w) != []int{3, 10, 1}[i] {
			t.Errorf("%d: the kind %d of %d", w, h.Kind(w), h.Len(w))
		}
	}
	h = made(t, 5)
	if h.Kind(0) != 0 || h.Len(0) != 0 || h.Text(0) != "" {
		t.Error("the zero word is an object of an empty heap")
	}
	if _, e := h.Part(0, 0); e != api.ErrArg {
		t.Errorf("a part of no object: %d", e)
	}
}

// P9.2: parts.
func TestPart(t *testing.T) {
	h := made(t, 100)
	put(t, h, heap.KFun, nil)
	for _, kind := range otherKinds {
		a := put(t, h, kind, []word{num(1), num(2), num(3)})
		b := put(t, h, kind, []word{num(4)})
		for i := range 3 {
			if v, e := h.Part(a, i); v != num(int64(i)+1) || e != api.OK {
				t.Errorf("Part(%d) = %d, %d", i, v, e)
			}
		}
		for _, i := range []int{-1, 3, 4, math.MinInt, math.MaxInt, math.MaxInt32 + 1} {
			if v, e := h.Part(a, i); v != 0 || e != api.ErrArg {
				t.Errorf("Part(%d) = %d, %d", i, v, e)
			}
			if e := h.SetPart(a, i, num(9)); e != api.ErrArg {
				t.Errorf("SetPart(%d): %d", i, e)
			}
		}
		if e := h.SetPart(a, 1, b); e != api.OK || h.SetPart(b, 0, a) != api.OK || h.SetPart(a, 2, a) != api.OK {
			t.Errorf("SetPart: %d", e)
		}
		if part(t, h, a, 0) != num(1) || part(t, h, a, 1) != b || part(t, h, a, 2) != a || part(t, h, b, 0) != a || h.Len(a) != 3 {
			t.Errorf("the parts are %s", show(h, a, 4))
		}
	}
	if h.Used() != 1+5*6 {
		t.Errorf("%d used", h.Used())
	}
	w := putText(t, h, "abcdefghij")
	for i := -1; i < 11; i++ {
		v, e := h.Part(w, i)
		if f := h.SetPart(w, i, 0); v != 0 || e != api.ErrArg || f != api.ErrArg || h.Text(w) != "abcdefghij" {
			t.Errorf("the part %d of a text: %d, %d, %d", i, v, e, f)
		}
	}
}

// P9.2: all bytes, in texts of all lengths.
func TestText(t *testing.T) {
	h := made(t, 20000)
	var all []byte
	for i := range 300 {
		all = append(all, byte(i*7+i/256))
		putText(t, h, string(all))
	}
	w := putText(t, h, strings.Repeat("\xff", 17))
	l := h.Words()[w/2:]
	if !slices.Equal(l, []word{3 + 17*256, math.MaxUint64, math.MaxUint64, 0xff}) {
		t.Errorf("%v", l)
	}
}
