package heap_test

import (
	"slices"
	"strconv"
	"strings"
	"testing"
	"time"

	"battledore/api"
	"battledore/heap"
)

type word = heap.Word

var num = heap.Num

// at: the object whose first word has an index.
func at(i int) word { return word(2 * i) }

// first: the first word of an object.
func first(kind byte, n int) word { return word(kind) + 256*word(n) }

// made: an empty heap.
func made(t *testing.T, quota int) *heap.Heap {
	t.Helper()
	h, e := heap.New(quota)
	if e != api.OK || h == nil {
		t.Fatalf("New(%d): %d", quota, e)
	}
	return h
}

// loaded: a heap of words.
func loaded(t *testing.T, quota int, l ...word) *heap.Heap {
	t.Helper()
	h, e := heap.Load(quota, l)
	if e != api.OK || h == nil {
		t.Fatalf("Load(%d, %v): %d", quota, l, e)
	}
	return h
}

// put makes an object, for which there must be room, with a collection or not.
func put(t *testing.T, h *heap.Heap, kind byte, parts []word, roots ...*word) word {
	t.Helper()
	w, e := h.Put(kind, parts, roots)
	if e != api.OK || h.Kind(w) != kind || h.Len(w) != len(parts) {
		t.Fatalf("Put(%d, %v) = %d, %d: the kind %d of %d", kind, parts, w, e, h.Kind(w), h.Len(w))
	}
	return w
}

// putText makes a text, for which there must be room, with a collection or not.
func putText(t *testing.T, h *heap.Heap, s string, roots ...*word) word {
	t.Helper()
	w, e := h.PutText(s, roots)
	if e != api.OK || h.Kind(w) != heap.KText || h.Len(w) != len(s) || h.Text(w) != s {
		t.Fatalf("PutText(%q) = %d, %d: the kind %d of %d, %q", s, w, e, h.Kind(w), h.Len(w), h.Text(w))
	}
	return w
}

// part: a part that must be there.
func part(t *testing.T, h *heap.Heap, w word, i int) word {
	t.Helper()
	v, e := h.Part(w, i)
	if e != api.OK {
		t.Fatalf("Part(%d, %d): %d", w, i, e)
	}
	return v
}

// isHeap: it must have these words, and have been collected so often.
func isHeap(t *testing.T, h *heap.Heap, collections int, want ...word) {
	t.Helper()
	if got := h.Words(); !slices.Equal(got, want) || h.Used() != len(want) || h.Collections() != collections {
		t.Errorf("%d words %v, %d collections; not %v, %d", h.Used(), got, h.Collections(), want, collections)
	}
}

// show: a value as a text; what occurs in itself ends at the depth 0.
func show(h *heap.Heap, w word, deep int) string {
	switch {
	case w.IsNum():
		return strconv.FormatInt(w.N(), 10)
	case deep == 0:
		return "..."
	case h.Kind(w) == heap.KText:
		return strconv.Quote(h.Text(w))
	}
	l := make([]string, h.Len(w))
	for i := range l {
		p, _ := h.Part(w, i)
		l[i] = show(h, p, deep-1)
	}
	return strconv.Itoa(int(h.Kind(w))) + "(" + strings.Join(l, " ") + ")"
}

// soon: it must come to an end.
func soon(t *testing.T, what string, run func()) {
	t.Helper()
	done := make(chan struct{})
	go func() {
		defer close(done) // also if it gives up
		run()
	}()
	select {
	case <-done:
	case <-time.After(time.Minute):
		t.Fatalf("%s: no end", what)
	}
}
