package machine_test

import (
	"strings"
	"testing"

	"battledore/api"
	"battledore/code"
	"battledore/heap"
	"battledore/machine"
)

// caught: instructions that leave one value; the text of an exception within them, and in which they were.
func caught(at int, l ...code.Ins) []code.Ins {
	n := int64(at + len(l))
	return rows(row(do(code.Try, n+3)), l, row(do(code.Untry), do(code.Jump, n+5), do(code.Int, -1), do(code.Tuple, 2)))
}

// P10.3: each exception, where it is caught, and where it isn't.
func TestExceptions(t *testing.T) {
	for _, c := range []struct {
		l    []code.Ins
		text string
		fuel string
	}{
		{row(raise("some")), "some", "10"},
		{row(raise("")), "", "10"},
		{two(code.Div, 1, 0), "div", "10"},
		{two(code.Mod, 0, 0), "div", "10"},
		{row(do(code.Self), do(code.Self), do(code.Op, code.Eq)), "equal", "9"},
		{row(do(code.Glob, 1), do(code.Self), do(code.Op, code.Ne)), "equal", "9"},
		{row(text(strings.Repeat("x", 4097))), "long", "10"},
		{row(text(strings.Repeat("x", 4096)), text("x"), do(code.Op, code.Cat)), "long", "10"},
		{called(fail, text("own")), "own", "9"},
		{called(fail, text("")), "", "9"},
	} {
		m := made(t, 2000, append([]code.Fun{fun(append(row(), c.l...)...), fun(caught(0, c.l...)...)}, beside...)...)
		want := "E9; raised " + c.text + "; fuel " + c.fuel
		if c.text == "" {
			want = "E9; fuel " + c.fuel
		}
		if got := told(m, m.Run(0, 10, 0, 0)); got != want {
			t.Errorf("%v: %s, not %s", c.l, got, want)
		}
		r := m.Run(1, 10, 0, 0)
		if got := told(m, r); got != `E0; ("`+c.text+`" -1); fuel `+c.fuel {
			t.Errorf("%v, caught: %s", c.l, got)
		}
	}
	moves := rows(called(move, do(code.Int, 1)), row(pop), called(move, do(code.Int, 2)))
	m := made(t, 2000, fun(caught(0, moves...)...))
	if got := told(m, m.Run(0, 10, 1, 0)); got != `E0; ("moves" -1); move 1; fuel 8` {
		t.Errorf("moves: %s", got)
	}
	if got := told(m, m.Run(0, 10, 2, 0)); got != `E0; 0; move 1; move 2; fuel 8` {
		t.Errorf("moves: %s", got)
	}
}

// P10.3: what was on the stack at the try is there; what came later has gone.
func TestWhereItGoesOn(t *testing.T) {
	try(t,
		gives(`(1 2 "x")`, do(code.Int, 1), do(code.Int, 2), do(code.Try, 7), do(code.Int, 3), do(code.Int, 4), text("y"), raise("x"), do(code.Tuple, 3)),
		gives(`(1 "x")`, do(code.Int, 1), do(code.Try, 4), text("y"), raise("x"), do(code.Tuple, 2)),
		gives("(0 5)", do(code.Try, 4), do(code.Int, 5), do(code.Untry), do(code.Jump, 4), arg, do(code.Local, 1), do(code.Tuple, 2), do(code.Slide, 1)),
		// what is raised behind Untry isn't caught, nor what is raised where the try leads
		trial{row(do(code.Try, 3), do(code.Untry), raise("late"), ret), "E9; raised late; fuel 10"},
		trial{row(do(code.Try, 2), raise("one"), raise("two")), "E9; raised two; fuel 10"},
		// of two open tries the last one is the inner one; the outer one catches what is raised behind it
		gives(`("inner" "outer")`, do(code.Try, 5), do(code.Try, 3), raise("inner"), pop, raise("outer"), text("inner"), do(code.Local, 1), do(code.Tuple, 2), do(code.Slide, 1)),
		gives(`"outer"`, do(code.Try, 5), do(code.Try, 4), do(code.Untry), raise("outer"), raise("not here")),
		gives(`"inner"`, do(code.Try, 5), do(code.Try, 3), raise("inner"), do(code.Untry), do(code.Jump, 5)),
	)
}

// P10.3: an exception leaves the functions that were called since the try, however many they are.
func TestLeaving(t *testing.T) {
	const (
		thrower = iota + 1 // fails with its argument
		catcher            // (1, what its argument answers to "t"), or (2, the exception)
		passer             // what its argument answers to "again"; an exception is raised once more
		diver              // captures a text; fails with it, once its argument is 0
		late               // catches nothing; then fails
		caller             // calls the passer with the thrower
	)
	funs := []code.Fun{
		thrower: fun(called(fail, arg)...),
		catcher: fun(do(code.Try, 8), do(code.Int, 1), arg, text("t"), call, do(code.Tuple, 2), do(code.Untry), do(code.Jump, 12), do(code.Int, 2), do(code.Local, 1), do(code.Tuple, 2), do(code.Slide, 1)),
		passer:  fun(do(code.Try, 6), arg, text("again"), call, do(code.Untry), do(code.Jump, 10), do(code.Glob, fail), do(code.Local, 1), call, do(code.Slide, 1)),
		diver:   {Caps: 1, Code: row(arg, do(code.False, 8), do(code.Self), arg, do(code.Int, 1), do(code.Op, code.Sub), call, do(code.Jump, 11), do(code.Glob, fail), do(code.Cap), call, ret)},
		late:    fun(do(code.Try, 3), do(code.Untry), do(code.Jump, 4), pop, do(code.Glob, fail), arg, call),
		caller:  fun(clos(passer, 0), clos(thrower, 0), call),
	}
	for _, c := range []struct {
		what string
		l    []code.Ins
		want string
	}{
		{"out of a function", row(clos(thrower, 0), text("x"), call), "E9; raised x; fuel 98"},
		{"to the caller", row(clos(catcher, 0), clos(thrower, 0), call), `E0; (2 "t"); fuel 97`},
		{"nothing is raised", row(clos(catcher, 0), do(code.Glob, size), call), "E0; (1 1); fuel 98"},
		{"caught, and raised once more", row(clos(passer, 0), clos(thrower, 0), call), "E9; raised again; fuel 96"},
		{"caught, raised once more, and caught", row(clos(catcher, 0), clos(caller, 0), call), `E0; (2 "again"); fuel 94`},
		{"from far within", row(do(code.Int, 5), do(code.Try, 7), text("deep"), clos(diver, 1), do(code.Int, 40), call, do(code.Untry), do(code.Tuple, 2)), `E0; (5 "deep"); fuel 58`},
		{"from far within, not caught", row(text("deep"), clos(diver, 1), do(code.Int, 40), call), "E9; raised deep; fuel 58"},
		{"a try that is closed", row(clos(late, 0), text("late"), call), "E9; raised late; fuel 98"},
		{"a try that is closed, within one that is open", row(clos(catcher, 0), clos(late, 0), call), `E0; (2 "t"); fuel 97`},
	} {
		all := append([]code.Fun{}, funs...)
		all[0] = fun(append(row(), c.l...)...)
		m := made(t, 300, all...)
		if got := told(m, m.Run(0, 100, 0, 0)); got != c.want {
			t.Errorf("%s: %s, not %s", c.what, got, c.want)
		}
	}
}

// P10.3: the text of fail is the one that it was called with.
func TestTextOfFail(t *testing.T) {
	long := strings.Repeat("123456789", 450)
	h, _ := heap.New(600)
	s, _ := h.PutText(long, nil)
	f, _ := h.Put(heap.KPrim, []word{num(fail)}, nil)
	m, e := machine.Restore(h, []code.Fun{fun(do(code.Try, 6), do(code.Glob, 1), do(code.Glob, 0), call, do(code.Untry), do(code.Jump, 6)), fun(do(code.Glob, 1), do(code.Glob, 0), call)}, []word{s, f})
	if e != api.OK {
		t.Fatal(e)
	}
	if r := m.Run(0, 1, 0, 0); r.E != api.OK || r.W != s || m.Heap().Collections() != 0 {
		t.Errorf("caught: %s", told(m, r))
	}
	if r := m.Run(1, 1, 0, 0); r.E != api.ErrRaise || r.Raise != long {
		t.Errorf("not caught: %s", told(m, r))
	}
}

// P10.3: the text of Fail is one of the heap only where it is caught; so there it can't be too long.
func TestLongFail(t *testing.T) {
	for _, n := range []int{2000, 4096, 4097, 9000} {
		s := strings.Repeat("x", n)
		m := made(t, 2000, fun(raise(s)), fun(caught(0, raise(s))...))
		if r := m.Run(0, 0, 0, 0); r.E != api.ErrRaise || r.Raise != s {
			t.Errorf("%d bytes: %d, %d bytes", n, r.E, len(r.Raise))
		}
		want := s
		if n > api.MaxString {
			want = "long"
		}
		if got := told(m, m.Run(1, 0, 0, 0)); got != `E0; ("`+want+`" -1); fuel 0` {
			t.Errorf("%d bytes, caught: %s", n, got)
		}
	}
}
