package heap_test

import (
	"math"
	"math/rand"
	"slices"
	"testing"

	"battledore/api"
	"battledore/heap"
)

// The rule about nil objects, with the chapter's ErrArg for parts.
func TestNilHeap(t *testing.T) {
	var h *heap.Heap
	x := at(3)
	parts := []word{at(1), num(1)}
	for _, kind := range []byte{0, heap.KTuple, heap.KText, 7} {
		if w, e := h.Put(kind, parts, []*word{&x}); w != 0 || e != api.ErrNone {
			t.Errorf("Put = %d, %d", w, e)
		}
	}
	if w, e := h.PutText("abc", []*word{&x, nil}); w != 0 || e != api.ErrNone {
		t.Errorf("PutText = %d, %d", w, e)
	}
	for _, w := range []word{0, 2, 1} {
		if h.Kind(w) != 0 || h.Len(w) != 0 || h.Text(w) != "" {
			t.Errorf("%d: the kind %d of %d", w, h.Kind(w), h.Len(w))
		}
		for _, i := range []int{-1, 0, 1} {
			if v, e := h.Part(w, i); v != 0 || e != api.ErrArg {
				t.Errorf("Part(%d, %d) = %d, %d", w, i, v, e)
			}
			if e := h.SetPart(w, i, num(1)); e != api.ErrArg {
				t.Errorf("SetPart(%d, %d): %d", w, i, e)
			}
		}
	}
	h.Collect([]*word{&x, nil})
	if x != at(3) || !slices.Equal(parts, []word{at(1), num(1)}) {
		t.Errorf("the root is %d, the parts are %v", x, parts)
	}
	if h.Used() != 0 || h.Quota() != 0 || h.Collections() != 0 || len(h.Words()) != 0 || h.Copy() != nil {
		t.Error("no heap has something")
	}
}

// isSound: the words must be objects, one behind the other.
func isSound(t *testing.T, h *heap.Heap) {
	t.Helper()
	used := 0
	for used < h.Used() {
		w := at(used)
		if k := h.Kind(w); k < heap.KTuple || k > heap.KPrim {
			t.Fatalf("the kind %d at %d", k, w)
		}
		used += heap.Need(h.Kind(w), h.Len(w))
	}
	if used != h.Used() || used > h.Quota() || len(h.Words()) != used {
		t.Fatalf("objects of %d words, of %d, of at most %d", used, h.Used(), h.Quota())
	}
}

// someWord: a number, an object, or something else.
func someWord(rnd *rand.Rand, used int) word {
	switch rnd.Intn(8) {
	case 0:
		return word(rnd.Uint64())
	case 1:
		return word(rnd.Uint64()) >> rnd.Intn(64)
	case 2:
		return num(int64(rnd.Intn(300)))
	case 3:
		return at(used)
	case 4:
		return math.MaxUint64 - word(rnd.Intn(3))
	}
	return at(rnd.Intn(used + 3))
}

// P1, P2: words of any kind, as parts and as roots, where they are not specified, and kinds that there are not.
func TestAnyWords(t *testing.T) {
	for seed := range int64(300) {
		rnd := rand.New(rand.NewSource(seed))
		quota := 1 + rnd.Intn(60)
		h := made(t, quota)
		if seed%3 == 0 {
			h = loaded(t, quota)
		}
		for range 300 {
			l := make([]word, rnd.Intn(6))
			for i := range l {
				l[i] = someWord(rnd, h.Used())
			}
			roots := make([]*word, rnd.Intn(5))
			for i := range roots {
				if len(l) > 0 && rnd.Intn(2) == 0 {
					roots[i] = &l[rnd.Intn(len(l))]
				} else if rnd.Intn(2) == 0 {
					w := someWord(rnd, h.Used())
					roots[i] = &w
				}
			}
			switch w := someWord(rnd, h.Used()); rnd.Intn(6) {
			case 0, 1:
				h.Put(byte(rnd.Intn(9)), l, roots)
			case 2:
				h.PutText("0123456789"[rnd.Intn(10):], roots)
			case 3:
				h.SetPart(w, rnd.Intn(4)-1, someWord(rnd, h.Used()))
			case 4:
				if rnd.Intn(5) == 0 {
					h.Collect(roots)
				}
			default:
				h.Kind(w)
				h.Len(w)
				h.Text(w)
				h.Part(w, rnd.Intn(4)-1)
				h = h.Copy()
				if g, e := heap.Load(quota, h.Words()); e == api.OK {
					h = g
				}
			}
			isSound(t, h)
		}
	}
}

// P1, P9.2: Put makes no text, and no object of another kind; where it isn't specified the heap stays one that can be loaded.
func TestOtherKinds(t *testing.T) {
	for kind := range 256 {
		for n := range 10 {
			h := made(t, 5)
			parts := make([]word, n)
			for i := range parts {
				parts[i] = num(int64(i))
			}
			w, e := h.Put(byte(kind), parts, nil)
			isSound(t, h)
			loaded(t, 5, h.Words()...)
			if other := slices.Contains(otherKinds, byte(kind)); e == api.OK && (!other || n > 4) || e != api.OK && (other && n <= 4 || w != 0) {
				t.Errorf("Put of the kind %d, with %d parts: %d", kind, n, e)
			}
		}
	}
}

// P1, P9.4: Load of any words gives a heap of these, or an error and none.
func TestLoadAny(t *testing.T) {
	rnd := rand.New(rand.NewSource(9))
	valid, not := 0, 0
	for range 200000 {
		l := make([]word, rnd.Intn(8))
		for i := range l {
			switch rnd.Intn(4) {
			case 0:
				l[i] = first(byte(rnd.Intn(8)), rnd.Intn(10))
			case 1:
				l[i] = first(byte(1+rnd.Intn(6)), rnd.Intn(3))
			case 2:
				l[i] = at(rnd.Intn(len(l)))
			default:
				l[i] = someWord(rnd, len(l))
			}
		}
		h, e := heap.Load(8, l)
		if want := areObjects(l); want != (e == api.OK) || want != (h != nil) || !want && e != api.ErrForm {
			t.Fatalf("Load(%v): %d", l, e)
		}
		if e != api.OK {
			not++
			continue
		}
		valid++
		if isSound(t, h); !slices.Equal(h.Words(), l) {
			t.Fatalf("Load(%v) = %v", l, h.Words())
		}
		var roots []*word
		for i := range l {
			w := at(i)
			roots = append(roots, &w)
		}
		if h.Collect(roots); h.Used() > len(l) {
			t.Fatalf("%v, of %v", h.Words(), l)
		}
		loaded(t, 8, h.Words()...)
	}
	if valid < 5000 || not < 50000 {
		t.Errorf("only %d are objects, %d aren't", valid, not)
	}
}

// areObjects: are these words objects, as the chapter says?
func areObjects(l []word) bool {
	begins := map[word]bool{}
	var parts []word
	for i := 0; i < len(l); {
		kind, n := l[i]%256, l[i]/256
		begins[at(i)] = true
		i++
		switch {
		case kind < 1 || kind > 6 || n > 100:
			return false
		case kind == 3:
			i += int(n+7) / 8
		default:
			for range n {
				if i < len(l) {
					parts = append(parts, l[i])
				}
				i++
			}
		}
		if i > len(l) {
			return false
		}
	}
	return !slices.ContainsFunc(parts, func(w word) bool { return w%2 == 0 && !begins[w] })
}
