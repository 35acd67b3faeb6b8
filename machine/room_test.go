package machine_test

import (
	"strconv"
	"strings"
	"testing"

	"battledore/api"
	"battledore/code"
	"battledore/heap"
	"battledore/machine"
)

// P10.2, P10.4: how many words each object takes, beside the 16 of the predefined functions.
func TestNeeds(t *testing.T) {
	for _, c := range []struct {
		what  string
		l     []code.Ins
		words int
	}{
		{"a number", row(do(code.Int, 1)), 0},
		{"a text of none", row(text("")), 1},
		{"a text of 8", row(text("12345678")), 2},
		{"a text of 9", row(text("123456789")), 3},
		{"a pair", row(do(code.Int, 1), do(code.Int, 2), do(code.Tuple, 2)), 3},
		{"a constructor", row(do(code.Int, 1), do(code.Con, 2)), 3},
		{"a ref", row(do(code.Int, 1), do(code.Ref)), 2},
		{"a predefined ref", called(ref, do(code.Int, 1)), 2},
		{"digits", called(itoa, do(code.Int, 123456789)), 3},
		{"a function", row(clos(identity, 0)), 2},
		{"a function that captures", row(do(code.Int, 1), do(code.Int, 2), clos(three, 2)), 4},
		{"the function itself", row(do(code.Self)), 2},
		{"the function itself, called", row(clos(itself, 0), do(code.Int, 1), call), 2},
		{"a function that is called", row(clos(identity, 0), do(code.Int, 1), call), 2},
		{"an exception", caught(0, do(code.Int, 1), do(code.Int, 0), do(code.Op, code.Div)), 5},
		{"an exception that isn't caught", row(raise("x")), 0},
		{"an exception's own text", caught(0, called(fail, text("123456789"))...), 6},
		{"texts that are joined", row(text("12345678"), text("1"), do(code.Op, code.Cat)), 4},
	} {
		all := append([]code.Fun{fun(append(row(), c.l...)...)}, beside...)
		want := made(t, 200, all...)
		r := want.Run(0, 9, 9, 9)
		m := made(t, 16+c.words, all...)
		if got := told(m, m.Run(0, 9, 9, 9)); got != told(want, r) || strings.HasPrefix(got, "E11") {
			t.Errorf("%s, %d words: %s, not %s", c.what, c.words, got, told(want, r))
		}
		if c.words == 0 {
			continue
		}
		m = made(t, 15+c.words, all...)
		before := stateOf(m)
		if r := m.Run(0, 9, 9, 9); r.E != api.ErrMem || r.W != 0 || r.Raise != "" {
			t.Errorf("%s, %d words: %s", c.what, c.words-1, told(m, r))
		}
		mustBe(t, c.what, m, before)
	}
}

// P10.4: nothing is collected as long as there is room.
func TestNotCollected(t *testing.T) {
	m := made(t, 26, fun(text("12345678")))
	for i, want := range []int{0, 0, 0, 0, 0, 1, 1, 1, 1, 1, 2} {
		if r := m.Run(0, 0, 0, 0); r.E != api.OK || m.Heap().Collections() != want {
			t.Errorf("%d: %s, %d collections", i, told(m, r), m.Heap().Collections())
		}
	}
}

// P10.4: whatever is on the stack, of all functions that run, what they have captured, and the globals, is kept.
func TestKept(t *testing.T) {
	const turns = 200
	h, _ := heap.New(60)
	s, _ := h.PutText("global", nil)
	p, _ := h.Put(heap.KTuple, []word{s, num(1)}, nil)
	itoa, _ := h.Put(heap.KPrim, []word{num(itoa)}, nil)
	// Function 1 captures a text; it makes one of its argument, forgets it, and calls itself with one less. When there is none left it answers what it has captured.
	loop := code.Fun{Caps: 1, Code: row(arg, do(code.False, 12), do(code.Glob, 2), arg, call, pop, do(code.Self), arg, do(code.Int, 1), do(code.Op, code.Sub), call, do(code.Jump, 13), do(code.Cap), ret)}
	main := fun(text("stack"), text("caught"), clos(1, 1), do(code.Int, turns), call, do(code.Glob, 0), do(code.Tuple, 3))
	m, e := machine.Restore(h, []code.Fun{main, loop}, []word{p, num(7), itoa})
	if e != api.OK {
		t.Fatal(e)
	}
	for range 3 {
		r := m.Run(0, api.MaxFuel, 0, 0)
		if got := told(m, r); got != `E0; ("stack" "caught" ("global" 1)); fuel `+strconv.Itoa(api.MaxFuel-2*turns-1) {
			t.Errorf("%s", got)
		}
	}
	if n := m.Heap().Collections(); n < 20 {
		t.Errorf("%d collections", n)
	}
	if globs := m.Globals(); show(m.Heap(), globs[0], 3) != `("global" 1)` || globs[1] != num(7) || show(m.Heap(), globs[2], 3) != "<prim 1>" {
		t.Error("other globals")
	}
}

// P10.4: what no longer is on the stack isn't kept: each turn's objects go, whatever their kind.
func TestGone(t *testing.T) {
	turn := func(l ...code.Ins) code.Fun {
		body := append(row(), l...)
		return fun(rows(body, row(pop, arg))...)
	}
	for _, f := range []code.Fun{
		turn(text("123456789")),
		turn(text("1"), text("2"), do(code.Op, code.Cat)),
		turn(do(code.Int, 1), do(code.Int, 2), do(code.Tuple, 2)),
		turn(do(code.Int, 1), do(code.Con, 3)),
		turn(do(code.Int, 1), do(code.Ref)),
		turn(clos(1, 0)),
		turn(called(ref, text("x"))...),
		turn(called(itoa, do(code.Int, 1234567))...),
		turn(caught(0, raise("x"))...),
	} {
		l := row()
		for range 300 {
			l = append(l, clos(1, 0), do(code.Int, 5), call, pop)
		}
		m := made(t, 16+10, fun(append(l, do(code.Int, 1))...), f)
		if r := m.Run(0, 900, 0, 0); r.E != api.OK || r.W != num(1) || m.Heap().Collections() < 30 {
			t.Errorf("%v: %s, %d collections", f.Code, told(m, r), m.Heap().Collections())
		}
	}
}

// The rule on errors: a run that ends with one has changed nothing, neither refs nor the heap.
func TestUndone(t *testing.T) {
	change := row(do(code.Glob, 8), text("new"), do(code.Op, code.Set), pop)
	ends := []struct {
		what string
		l    []code.Ins
		want string
	}{
		{"an exception", row(raise("x")), "E9; raised x; out out; turn 5; fuel 7"},
		{"no step is left", rows(row(do(code.Self)), called(itoa, do(code.Int, 1)), row(call)), "E10; out out; turn 5; fuel 0"},
		{"no room is left", row(text(strings.Repeat("x", 999))), "E11; out out; turn 5; fuel 7"},
		{"it can't go on", row(do(code.Int), do(code.Int), call), "E3; out out; turn 5; fuel 6"},
	}
	for _, c := range ends {
		for _, garbage := range []int{0, 40} {
			m := made(t, 100)
			h := m.Heap()
			s, _ := h.PutText("old", nil)
			w, _ := h.Put(heap.KRef, []word{s}, nil)
			m.Bind(w)
			body := rows(change, called(print, text("out")), row(pop), called(turn, do(code.Int, 5)), row(pop), called(itoa, do(code.Int, 7)), row(pop), c.l)
			funs := []code.Fun{fun(do(code.Glob, 8), do(code.Get)), {Code: body}}
			if c.l[len(c.l)-1].Op != code.Fail {
				funs[1] = fun(body...)
			}
			if e := m.Add(funs); e != api.OK {
				t.Fatal(e)
			}
			for range garbage {
				h.PutText("", nil)
			}
			before := stateOf(m)
			fuel := 10
			if c.want[:3] == "E10" {
				fuel = 4
			}
			for range 2 {
				if got := told(m, m.Run(1, fuel, 1, 9)); got != c.want {
					t.Errorf("%s: %s, not %s", c.what, got, c.want)
				}
				mustBe(t, c.what, m, before)
				if m.Heap() != h {
					t.Errorf("%s: another heap", c.what)
				}
			}
			if got := told(m, m.Run(0, 0, 0, 0)); got != `E0; "old"; fuel 0` {
				t.Errorf("%s: then %s", c.what, got)
			}
		}
	}
}

// P10.4: the words that a run leaves are those of the heap that the caller has.
func TestSameHeap(t *testing.T) {
	m := made(t, 40, fun(text("12345678"), text("1"), do(code.Tuple, 2)))
	h := m.Heap()
	for range 20 {
		if r := m.Run(0, 0, 0, 0); r.E != api.OK || show(h, r.W, 3) != `("12345678" "1")` || m.Heap() != h {
			t.Fatalf("%s", told(m, r))
		}
	}
	if h.Collections() == 0 {
		t.Error("no collections")
	}
}
