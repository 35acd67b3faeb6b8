package machine_test

import (
	"math"
	"slices"
	"testing"

	"battledore/api"
	"battledore/code"
	"battledore/heap"
	"battledore/machine"
)

// P10.1: New.
func TestNew(t *testing.T) {
	for _, c := range []struct {
		quota, prims int
		e            api.Errno
	}{
		{1, 0, api.OK}, {1, 1, api.ErrMem}, {2, 1, api.OK}, {3, 1, api.OK}, {3, 2, api.ErrMem}, {15, 8, api.ErrMem}, {16, 8, api.OK}, {api.MaxWords, 8, api.OK},
		{0, 0, api.ErrArg}, {-1, 0, api.ErrArg}, {api.MaxWords + 1, 8, api.ErrArg}, {0, 8, api.ErrArg}, {-5, math.MaxInt, api.ErrArg}, {math.MinInt, 1, api.ErrArg},
		{api.MaxWords, api.MaxWords / 2, api.OK}, {api.MaxWords, api.MaxWords/2 + 1, api.ErrMem}, {10, math.MaxInt, api.ErrMem},
	} {
		m, e := machine.New(c.quota, c.prims)
		if e != c.e || (m != nil) != (e == api.OK) {
			t.Errorf("New(%d, %d): %d", c.quota, c.prims, e)
		}
		if e != api.OK {
			continue
		}
		h, globs := m.Heap(), m.Globals()
		if h.Quota() != c.quota || h.Used() != 2*c.prims || h.Collections() != 0 || len(m.Funs()) != 0 || len(globs) != c.prims {
			t.Errorf("New(%d, %d): a quota of %d, %d used, %d globals", c.quota, c.prims, h.Quota(), h.Used(), len(globs))
		}
		for i, w := range globs {
			n, e := h.Part(w, 0)
			if h.Kind(w) != heap.KPrim || h.Len(w) != 1 || e != api.OK || n != num(int64(i)) {
				t.Fatalf("the global %d of New(%d, %d) is %s", i, c.quota, c.prims, show(h, w, 3))
			}
		}
	}
	for _, prims := range []int{-1, math.MinInt} {
		if m, e := machine.New(5, prims); e != api.OK || len(m.Globals()) != 0 {
			t.Errorf("New(5, %d): %d", prims, e)
		}
	}
}

// somewhere: a heap of a text, a pair, and a number within it.
func somewhere(t *testing.T) (*heap.Heap, word, word) {
	t.Helper()
	h, e := heap.New(50)
	if e != api.OK {
		t.Fatal(e)
	}
	s, _ := h.PutText("some text", nil)
	p, e := h.Put(heap.KTuple, []word{s, num(7)}, nil)
	if e != api.OK {
		t.Fatal(e)
	}
	return h, s, p
}

// P10.1: Restore.
func TestRestore(t *testing.T) {
	one := fun(do(code.Int, 1))
	global := fun(do(code.Glob, 2))
	for _, c := range []struct {
		what  string
		funs  []code.Fun
		globs []word
		ok    bool
	}{
		{"nothing", nil, nil, true},
		{"a function", []code.Fun{one}, nil, true},
		{"globals", nil, []word{0, 6, num(5), num(-1), 6}, true},
		{"a function of the globals", []code.Fun{one, global}, []word{0, 6, num(5)}, true},
		{"a function of more globals", []code.Fun{one, global}, []word{0, 6}, false},
		{"no function", []code.Fun{{}}, nil, false},
		{"a wrong function", []code.Fun{one, {Code: row(ret)}}, nil, false},
		{"a function that isn't there", []code.Fun{fun(clos(1, 0))}, nil, false},
		{"as many functions as may be", slices.Repeat([]code.Fun{one}, api.MaxFuns), nil, true},
		{"one more", slices.Repeat([]code.Fun{one}, api.MaxFuns+1), nil, false},
		{"no object", nil, []word{2}, false},
		{"a part", nil, []word{8}, false},
		{"the end of the heap", nil, []word{12}, false},
		{"far behind the heap", nil, []word{num(1), 1 << 63}, false},
		{"the last one is no object", nil, []word{0, num(3), 4}, false},
	} {
		h, s, p := somewhere(t)
		if s != 0 || p != 6 {
			t.Fatalf("objects at %d, %d", s, p)
		}
		m, e := machine.Restore(h, c.funs, c.globs)
		if c.ok {
			if e != api.OK || m.Heap() != h || !same(m.Funs(), c.funs) || !slices.Equal(m.Globals(), c.globs) {
				t.Errorf("%s: %d", c.what, e)
			}
		} else if e != api.ErrForm || m != nil {
			t.Errorf("%s: %d", c.what, e)
		}
		if m, e := machine.Restore(nil, c.funs, c.globs); e != api.ErrForm || m != nil {
			t.Errorf("%s, no heap: %d", c.what, e)
		}
	}
	h, _, _ := somewhere(t)
	m, _ := machine.Restore(h, []code.Fun{global}, []word{0, 6, 6})
	if got := told(m, m.Run(0, 0, 0, 0)); got != `E0; ("some text" 7); fuel 0` {
		t.Errorf("a global: %s", got)
	}
}

// P10.1: Add, in which an error changes nothing.
func TestAdd(t *testing.T) {
	m := made(t, 100)
	one, wrong := fun(do(code.Int, 1)), code.Fun{Code: row(ret)}
	global := fun(do(code.Glob, 8))
	caps := code.Fun{Caps: 1, Code: row(do(code.Cap), ret)}
	var all []code.Fun
	for _, c := range []struct {
		what string
		l    []code.Fun
		e    api.Errno
	}{
		{"none", nil, api.OK},
		{"one", []code.Fun{one}, api.OK},
		{"a wrong one", []code.Fun{one, wrong}, api.ErrForm},
		{"one that isn't there yet", []code.Fun{fun(clos(2, 0)), caps}, api.ErrForm},
		{"one that is there at once", []code.Fun{fun(clos(0, 0)), fun(do(code.Int), clos(3, 1)), caps}, api.OK},
		{"one that was there", []code.Fun{fun(do(code.Int), clos(3, 1))}, api.OK},
		{"a global that isn't there", []code.Fun{global}, api.ErrForm},
		{"too many", slices.Repeat([]code.Fun{one}, api.MaxFuns-4), api.ErrLong},
		{"too many, and wrong ones", slices.Repeat([]code.Fun{wrong}, api.MaxFuns), api.ErrLong},
		{"as many as may be, one of them wrong", append(slices.Repeat([]code.Fun{one}, api.MaxFuns-6), wrong), api.ErrForm},
		{"as many as may be", slices.Repeat([]code.Fun{one}, api.MaxFuns-5), api.OK},
		{"one more", []code.Fun{one}, api.ErrLong},
		{"no more", []code.Fun{}, api.OK},
	} {
		if e := m.Add(c.l); e != c.e {
			t.Errorf("%s: %d", c.what, e)
		}
		if c.e == api.OK {
			all = append(all, c.l...)
		}
		if !same(m.Funs(), all) || m.Count() != len(all) {
			t.Errorf("%s: %d functions, not %d", c.what, m.Count(), len(all))
		}
	}
	m = made(t, 100)
	if m.Add([]code.Fun{global}) != api.ErrForm || m.Bind(num(3)) != api.OK || m.Add([]code.Fun{global}) != api.OK {
		t.Error("a global that is bound later")
	}
	if got := told(m, m.Run(0, 0, 0, 0)); got != "E0; 3; fuel 0" {
		t.Errorf("the new global: %s", got)
	}
}

// P10.1: Bind.
func TestBind(t *testing.T) {
	h, s, p := somewhere(t)
	m, _ := machine.Restore(h, nil, []word{num(4)})
	want := []word{num(4)}
	for _, w := range []word{p, num(-3), s, p, 0, num(0)} {
		if e := m.Bind(w); e != api.OK {
			t.Errorf("Bind(%d): %d", w, e)
		}
		want = append(want, w)
		for _, wrong := range []word{2, 4, 8, 10, 12, 100, 1 << 40, 1<<64 - 2} {
			if e := m.Bind(wrong); e != api.ErrForm {
				t.Errorf("Bind(%d): %d", wrong, e)
			}
		}
		if !slices.Equal(m.Globals(), want) {
			t.Fatalf("the globals are %v, not %v", m.Globals(), want)
		}
	}
}

// P10.1: Tidy keeps what the globals reach, in their order.
func TestTidy(t *testing.T) {
	m := made(t, 100)
	h := m.Heap()
	h.PutText("gone", nil)
	s, _ := h.PutText("s", nil)
	p, _ := h.Put(heap.KTuple, []word{s, num(1)}, nil)
	gone, _ := h.Put(heap.KRef, []word{p}, nil)
	h.SetPart(gone, 0, gone)
	for _, w := range []word{num(5), p, s} {
		if e := m.Bind(w); e != api.OK {
			t.Fatal(e)
		}
	}
	m.Tidy()
	globs := m.Globals()
	if h.Used() != 16+3+2 || h.Collections() != 1 || globs[7] != 28 || globs[8] != num(5) || globs[9] != 32 || globs[10] != 38 || show(h, globs[9], 3) != `("s" 1)` || m.Heap() != h {
		t.Errorf("%d used, %d collections, the globals %v", h.Used(), h.Collections(), globs)
	}
	words := h.Words()
	m.Tidy()
	if !slices.Equal(h.Words(), words) || !slices.Equal(m.Globals(), globs) || h.Collections() != 2 {
		t.Error("Tidy of what is tidy changes it")
	}
}

// P10.1: a copy is equal, and has its own memory.
func TestCopy(t *testing.T) {
	count := fun(do(code.Glob, 8), do(code.Glob, 8), do(code.Get), do(code.Int, 1), do(code.Op, code.Add), do(code.Op, code.Set), pop, do(code.Glob, 8), do(code.Get))
	m := made(t, 100)
	w, _ := m.Heap().Put(heap.KRef, []word{num(10)}, nil)
	if m.Bind(w) != api.OK || m.Add([]code.Fun{count}) != api.OK {
		t.Fatal("Bind, Add")
	}
	m.Tidy()
	c := m.Copy()
	mustBe(t, "the copy", c, stateOf(m))
	if c.Heap() == m.Heap() || c.Heap().Quota() != 100 {
		t.Error("the copy's heap is the same one")
	}
	before := stateOf(m)
	for i, want := range []string{"E0; 11; fuel 0", "E0; 12; fuel 0"} {
		if got := told(c, c.Run(0, 0, 0, 0)); got != want {
			t.Errorf("%d: %s", i, got)
		}
	}
	c.Bind(num(1))
	c.Add([]code.Fun{count})
	c.Heap().PutText("more", nil)
	c.Tidy()
	mustBe(t, "the machine whose copy was used", m, before)
	after := stateOf(c)
	m.Bind(num(2))
	m.Add([]code.Fun{fun(do(code.Int, 3)), count})
	m.Run(0, 0, 0, 0)
	m.Tidy()
	mustBe(t, "the copy of a machine that was used", c, after)
	if got := told(m, m.Run(1, 0, 0, 0)); got != "E0; 3; fuel 0" {
		t.Errorf("what was added: %s", got)
	}
	if got := told(c, c.Run(1, 0, 0, 0)); got != "E0; 13; fuel 0" {
		t.Errorf("what was added to the copy: %s", got)
	}
}

// The rule on nil objects.
func TestNil(t *testing.T) {
	var m *machine.Machine
	if m.Heap() != nil || m.Funs() != nil || m.Globals() != nil || m.Copy() != nil || m.Count() != 0 {
		t.Error("a nil machine has something")
	}
	if m.Add(nil) != api.ErrNone || m.Add(make([]code.Fun, 5000)) != api.ErrNone || m.Bind(2) != api.ErrNone || m.Bind(num(1)) != api.ErrNone {
		t.Error("not ErrNone")
	}
	m.Tidy()
	for _, n := range []int{0, -1, 30000} {
		r := m.Run(n, n, n, n)
		if r.E != api.ErrNone || r.W != 0 || r.Raise != "" || r.Out != "" || len(r.Moves) != 0 || r.Fuel != 0 {
			t.Errorf("Run: %v", r)
		}
	}
}

// The rules on memory: arguments aren't modified, nor is their spare capacity; nor are they kept.
func TestArguments(t *testing.T) {
	h, s, p := somewhere(t)
	funs := append(make([]code.Fun, 0, 9), fun(do(code.Int, 1)), fun(do(code.Glob, 1)))
	for i := range funs {
		funs[i].Code = append(make([]code.Ins, 0, 9), funs[i].Code...)
	}
	globs := append(make([]word, 0, 9), s, p)
	kept, keptGlobs := copied(funs), slices.Clone(globs)
	m, e := machine.Restore(h, funs, globs)
	if e != api.OK || m.Add(funs) != api.OK {
		t.Fatal(e)
	}
	m.Bind(num(8))
	m.Tidy()
	m.Run(1, 9, 9, 9)
	if !same(funs, kept) || !slices.Equal(globs, keptGlobs) || globs[:9][2] != 0 || funs[:9][2].Code != nil || funs[0].Code[:9][2] != (code.Ins{}) {
		t.Error("arguments are modified")
	}
	for i := range funs {
		for j := range funs[i].Code {
			funs[i].Code[j] = code.Ins{Op: 99}
		}
		funs[i] = code.Fun{Caps: 77}
		globs[i] = num(99)
	}
	want := append(copied(kept), kept...)
	if !same(m.Funs(), want) || !slices.Equal(m.Globals(), append(slices.Clone(keptGlobs), num(8))) {
		t.Error("arguments are kept")
	}
	if got := told(m, m.Run(3, 0, 0, 0)); got != `E0; ("some text" 7); fuel 0` {
		t.Errorf("Run: %s", got)
	}
}

func copied(l []code.Fun) []code.Fun {
	out := slices.Clone(l)
	for i := range out {
		out[i].Code = slices.Clone(out[i].Code)
	}
	return out
}

// The rules on memory: results are new.
func TestResultsAreNew(t *testing.T) {
	two := rows(called(move, do(code.Int, 1)), row(pop), called(turn, do(code.Int, 2)))
	m := made(t, 100, fun(do(code.Int, 1)), fun(two...), fun(do(code.Int, 2)))
	want := stateOf(m)
	run := told(m, m.Run(1, 9, 9, 9))
	for range 3 {
		funs, globs, words, r := m.Funs(), m.Globals(), m.Heap().Words(), m.Run(1, 9, 9, 9)
		if len(r.Moves) != 2 {
			t.Fatalf("Run: %v", r)
		}
		for i := range funs[:cap(funs)] {
			f := funs[:cap(funs)][i]
			for j := range f.Code[:cap(f.Code)] {
				f.Code[:cap(f.Code)][j] = code.Ins{Op: 99}
			}
			if i+1 < len(funs) && !same(funs[i+1:], want.funs[i+1:]) {
				t.Fatal("functions share memory")
			}
			funs[:cap(funs)][i] = code.Fun{Caps: 9}
		}
		fill(globs, num(9))
		fill(words, num(9))
		fill(r.Moves, api.Move{N: 99})
		mustBe(t, "a machine whose results were modified", m, want)
		if got := told(m, m.Run(1, 9, 9, 9)); got != run {
			t.Errorf("Run: %s, not %s", got, run)
		}
	}
}

// fill overwrites a slice, and its spare capacity.
func fill[T any](l []T, x T) {
	l = l[:cap(l)]
	for i := range l {
		l[i] = x
	}
}
