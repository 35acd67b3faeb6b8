package machine_test

import (
	"runtime/debug"
	"slices"
	"strconv"
	"testing"

	"battledore/api"
	"battledore/code"
	"battledore/heap"
	"battledore/machine"
)

// thing makes a value.
type thing = func(h *heap.Heap) word

func number(n int64) thing { return func(*heap.Heap) word { return num(n) } }

func letters(s string) thing {
	return func(h *heap.Heap) word { w, _ := h.PutText(s, nil); return w }
}

func object(kind byte, parts ...thing) thing {
	return func(h *heap.Heap) word {
		var l []word
		for _, p := range parts {
			l = append(l, p(h))
		}
		w, _ := h.Put(kind, l, nil)
		return w
	}
}

func tuple(parts ...thing) thing { return object(heap.KTuple, parts...) }

func con(n int64, x thing) thing { return object(heap.KCon, number(n), x) }

// list: numbers, one within the other.
func list(l ...int64) thing {
	return func(h *heap.Heap) word {
		w := num(0)
		for _, n := range slices.Backward(l) {
			w, _ = h.Put(heap.KTuple, []word{num(n), w}, nil)
		}
		return w
	}
}

// compares: a machine whose function 0 tells whether two values are equal, and 1 whether they aren't.
func compares(t *testing.T, quota int, a, b thing) *machine.Machine {
	t.Helper()
	h, e := heap.New(quota)
	if e != api.OK {
		t.Fatal(e)
	}
	globs := []word{a(h), b(h)}
	m, e := machine.Restore(h, []code.Fun{
		fun(do(code.Glob, 0), do(code.Glob, 1), do(code.Op, code.Eq)),
		fun(do(code.Glob, 0), do(code.Glob, 1), do(code.Op, code.Ne)),
		fun(do(code.Glob, 0), do(code.Glob, 0), do(code.Op, code.Eq)),
	}, globs)
	if e != api.OK {
		t.Fatal(e)
	}
	return m
}

// P10.3, P10.4: which values are equal, and how many pairs are examined.
func TestEqual(t *testing.T) {
	anyFun, prim := object(heap.KFun, number(0)), object(heap.KPrim, number(6))
	cell := object(heap.KRef, number(1))
	for _, c := range []struct {
		a, b thing
		want string // 1, 0, or the exception
		uses int
	}{
		{number(5), number(5), "1", 1},
		{number(5), number(-5), "0", 1},
		{number(0), number(0), "1", 1},
		{number(most), number(least), "0", 1},
		{letters(""), letters(""), "1", 1},
		{letters("a"), letters("a"), "1", 1},
		{letters("a"), letters("b"), "0", 1},
		{letters("a"), letters("a\x00"), "0", 1},
		{letters("123456789"), letters("123456789"), "1", 1},
		{letters("123456789"), letters("12345678X"), "0", 1},
		{letters("123456789"), letters("12345678"), "0", 1},
		{number(0), letters(""), "0", 1},
		{letters(""), number(0), "0", 1},
		{number(0), tuple(number(0), number(0)), "0", 1},
		{con(3, number(0)), number(3), "0", 1},
		{number(0), anyFun, "0", 1},
		{prim, number(6), "0", 1},
		{number(1), cell, "0", 1},
		{cell, cell, "0", 1},
		{tuple(number(1), number(2)), tuple(number(1), number(2)), "1", 3},
		{tuple(number(1), number(2)), tuple(number(1), number(3)), "0", 3},
		{tuple(number(1), number(2)), tuple(number(0), number(2)), "0", 2},
		{tuple(number(1), number(2), number(3)), tuple(number(1), number(2), number(3)), "1", 4},
		{tuple(tuple(number(1), number(2)), number(3)), tuple(tuple(number(1), number(2)), number(3)), "1", 5},
		{tuple(tuple(number(1), number(2)), number(3)), tuple(tuple(number(1), number(9)), number(3)), "0", 4},
		{tuple(tuple(number(1), number(2)), number(3)), tuple(tuple(number(1), number(2)), number(9)), "0", 5},
		{tuple(number(1), tuple(number(2), number(3))), tuple(number(1), tuple(number(2), number(3))), "1", 5},
		{con(3, number(1)), con(3, number(1)), "1", 3},
		{con(3, number(1)), con(3, number(2)), "0", 3},
		{con(3, number(1)), con(4, number(1)), "0", 2},
		{con(3, con(4, letters("x"))), con(3, con(4, letters("x"))), "1", 5},
		{con(3, anyFun), con(4, anyFun), "0", 2},
		{list(1, 2, 3), list(1, 2, 3), "1", 7},
		{list(1, 2, 3), list(1, 2), "0", 5},
		{list(1, 2), list(1, 2, 3), "0", 5},
		{list(1, 2, 3), list(), "0", 1},
		{list(), list(), "1", 1},
		{anyFun, anyFun, "equal", 1},
		{prim, prim, "equal", 1},
		{anyFun, prim, "equal", 1},
		{prim, anyFun, "equal", 1},
		{tuple(number(1), anyFun), tuple(number(1), prim), "equal", 3},
		{tuple(number(1), anyFun), tuple(number(2), anyFun), "0", 2},
		{tuple(anyFun, number(1)), tuple(anyFun, number(2)), "equal", 2},
		{tuple(cell, anyFun), tuple(cell, anyFun), "0", 2},
	} {
		m := compares(t, 100, c.a, c.b)
		what := show(m.Heap(), m.Globals()[0], 9) + " and " + show(m.Heap(), m.Globals()[1], 9)
		for fuel := range 10 {
			eq, ne := "E9; raised "+c.want, "E9; raised "+c.want
			switch {
			case fuel < c.uses:
				eq, ne = "E10", "E10"
			case c.want == "1":
				eq, ne = "E0; 1", "E0; 0"
			case c.want == "0":
				eq, ne = "E0; 0", "E0; 1"
			}
			end := "; fuel " + strconv.Itoa(max(0, fuel-c.uses))
			if got := told(m, m.Run(0, fuel, 0, 0)); got != eq+end {
				t.Errorf("%s, %d steps: %s, not %s", what, fuel, got, eq+end)
			}
			if got := told(m, m.Run(1, fuel, 0, 0)); got != ne+end {
				t.Errorf("%s, %d steps, Ne: %s, not %s", what, fuel, got, ne+end)
			}
		}
	}
}

// P10.3: an object and itself.
func TestEqualToItself(t *testing.T) {
	cell := object(heap.KRef, object(heap.KFun, number(0)))
	for _, c := range []struct {
		a    thing
		want string
	}{
		{number(4), "E0; 1; fuel 8"},
		{letters("x"), "E0; 1; fuel 8"},
		{cell, "E0; 1; fuel 8"},
		{tuple(cell, number(1)), "E0; 1; fuel 6"},
		{con(1, cell), "E0; 1; fuel 6"},
		{tuple(number(1), object(heap.KFun, number(0))), "E9; raised equal; fuel 6"},
		{object(heap.KFun, number(0)), "E9; raised equal; fuel 8"},
	} {
		m := compares(t, 100, c.a, number(0))
		if got := told(m, m.Run(2, 9, 0, 0)); got != c.want {
			t.Errorf("%s: %s, not %s", show(m.Heap(), m.Globals()[0], 9), got, c.want)
		}
	}
	h, _ := heap.New(20)
	one, _ := h.Put(heap.KRef, []word{num(1)}, nil)
	two, _ := h.Put(heap.KRef, []word{num(1)}, nil)
	m, _ := machine.Restore(h, []code.Fun{fun(do(code.Glob, 0), do(code.Glob, 2), do(code.Tuple, 2), do(code.Glob, 0), do(code.Glob, 0), do(code.Tuple, 2), do(code.Op, code.Eq)), fun(do(code.Glob, 0), do(code.Glob, 1), do(code.Op, code.Eq))}, []word{one, two, one})
	if got := told(m, m.Run(0, 9, 0, 0)); got != "E0; 1; fuel 6" {
		t.Errorf("the same refs: %s", got)
	}
	if got := told(m, m.Run(1, 9, 0, 0)); got != "E0; 0; fuel 8" {
		t.Errorf("two refs: %s", got)
	}
}

// P1, P10.4: values that are as deep, or as wide, as a heap lets them be, or that contain themselves.
func TestGreatEqual(t *testing.T) {
	defer debug.SetMaxStack(debug.SetMaxStack(1 << 20))
	long := func(first bool) thing {
		return func(h *heap.Heap) word {
			w := num(0)
			for range 100000 {
				l := []word{num(1), w}
				if first {
					l = []word{w, num(1)}
				}
				w, _ = h.Put(heap.KTuple, l, nil)
			}
			return w
		}
	}
	short := make([]int64, 9999)
	round := func(kids int) thing {
		return func(h *heap.Heap) word {
			w, _ := h.Put(heap.KTuple, make([]word, kids), nil)
			for i := range kids {
				h.SetPart(w, i, w)
			}
			return w
		}
	}
	for _, c := range []struct {
		what string
		x    thing
		want string
	}{
		{"a long list", long(false), "E10; fuel 0"},
		{"a long list, the other way round", long(true), "E10; fuel 0"},
		{"a list of 9999", list(short...), "E0; 1; fuel 1"},
		{"a list of 10000", list(append(short, 1)...), "E10; fuel 0"},
		{"a round of one", round(1), "E10; fuel 0"},
		{"a round of many", round(400000), "E10; fuel 0"},
		{"many parts", func(h *heap.Heap) word {
			w, _ := h.Put(heap.KTuple, make([]word, 400000), nil)
			h.Collect([]*word{&w})
			return w
		}, "E10; fuel 0"},
	} {
		soon(t, c.what, func() {
			m := compares(t, api.MaxWords, c.x, c.x)
			if got := told(m, m.Run(0, api.MaxFuel, 0, 0)); got != c.want {
				t.Errorf("%s: %s", c.what, got)
			}
		})
	}
}
