package machine_test

import (
	"math"
	"strconv"
	"strings"
	"testing"

	"battledore/api"
	"battledore/code"
	"battledore/heap"
)

// Functions beside the one that is tried, which has the number 0.
const (
	three    = iota + 1 // captures two values; (the first one, the second one, its argument)
	identity            // its argument
	itself              // itself
	deep                // a few values on its stack while it calls the function that is its argument, with 5
	countTo             // captures a number; 0, if its argument is 0, or what it makes of one less, and that number
)

var beside = []code.Fun{
	{Caps: 2, Code: row(do(code.Cap, 0), do(code.Cap, 1), arg, do(code.Tuple, 3), ret)},
	fun(arg),
	fun(do(code.Self)),
	fun(do(code.Int, 7), text("kept"), arg, do(code.Int, 5), call, do(code.Tuple, 3)),
	{Caps: 1, Code: row(arg, do(code.False, 10), do(code.Self), arg, do(code.Int, 1), do(code.Op, code.Sub), call, do(code.Cap), do(code.Op, code.Add), do(code.Jump, 11), do(code.Int), ret)},
}

// trial is instructions, without the last Ret, and what a run of them comes to, with 10 steps, 2 moves, room for 5 bytes.
type trial struct {
	code []code.Ins
	want string
}

func (c trial) run(t *testing.T) {
	t.Helper()
	m := made(t, 200, append([]code.Fun{fun(append(row(), c.code...)...)}, beside...)...)
	if got := told(m, m.Run(0, 10, 2, 5)); got != c.want {
		t.Errorf("%v: %s, not %s", c.code, got, c.want)
	}
}

func try(t *testing.T, l ...trial) {
	t.Helper()
	for _, c := range l {
		c.run(t)
	}
}

// gives: it comes to this value, without a step.
func gives(s string, l ...code.Ins) trial { return trial{l, "E0; " + s + "; fuel 10"} }

// two: an operator on two numbers.
func two(sign, a, b int64) []code.Ins {
	return row(do(code.Int, a), do(code.Int, b), do(code.Op, sign))
}

const (
	most  = 1<<62 - 1
	least = -1 << 62
)

// P10.2: what makes a value, and what takes one.
func TestValues(t *testing.T) {
	try(t,
		gives("0", arg),
		gives("5", do(code.Int, 5)),
		gives("-5", do(code.Int, -5)),
		gives("4611686018427387903", do(code.Int, most)),
		gives("-4611686018427387904", do(code.Int, least)),
		gives("-4611686018427387904", do(code.Int, most+1)),
		gives("-1", do(code.Int, math.MaxInt64)),
		gives("0", do(code.Int, math.MinInt64)),
		gives(`""`, text("")),
		gives(`"a\x00b\xff"`, text("a\x00b\xff")),
		gives("(1 2)", do(code.Int, 1), do(code.Int, 2), do(code.Tuple, 2)),
		gives("(1 2 \"x\")", do(code.Int, 1), do(code.Int, 2), text("x"), do(code.Tuple, 3)),
		gives("9", do(code.Int, 8), do(code.Int, 9), pop, do(code.Int, 9), do(code.Slide, 1)),
		gives("3", do(code.Int, 1), do(code.Int, 2), do(code.Int, 3), do(code.Slide, 2)),
		gives("(1 4)", do(code.Int, 1), do(code.Int, 2), do(code.Int, 3), do(code.Int, 4), do(code.Slide, 2), do(code.Tuple, 2)),
		gives("(6 7 6 0)", do(code.Int, 6), do(code.Int, 7), do(code.Local, 1), do(code.Local, 0), do(code.Tuple, 4)),
		gives("#(0 5)", do(code.Int, 5), do(code.Con, 0)),
		gives("#(100000 #(3 \"x\"))", text("x"), do(code.Con, 3), do(code.Con, 100000)),
		gives("{5}", do(code.Int, 5), do(code.Ref)),
		gives("{{\"x\"}}", text("x"), do(code.Ref), do(code.Ref)),
		gives("<prim 0>", do(code.Glob, 0)),
		gives("<prim 7>", do(code.Glob, 7)),
		gives("<fun 0>", do(code.Self)),
		gives("(<fun 0> <fun 0>)", do(code.Self), do(code.Self), do(code.Tuple, 2)),
		gives("<fun 2>", clos(identity, 0)),
		gives("<fun 1 5 \"x\">", do(code.Int, 5), text("x"), clos(three, 2)),
		gives("<fun 0>", clos(0, 0)),
		gives("-5", do(code.Int, 5), do(code.Neg)),
		gives("5", do(code.Int, -5), do(code.Neg)),
		gives("-4611686018427387904", do(code.Int, least), do(code.Neg)),
	)
	wide := row()
	for i := range 70 {
		wide = append(wide, do(code.Int, int64(i)))
	}
	got := "("
	for i := range 70 {
		got += strconv.Itoa(i) + " "
	}
	try(t, gives(strings.TrimSpace(got)+")", append(wide, do(code.Tuple, 70))...))
}

// P10.2: Field, Get, Set.
func TestParts(t *testing.T) {
	pair := row(text("x"), do(code.Int, 6), do(code.Int, 7), do(code.Tuple, 3))
	cell := row(do(code.Int, 1), do(code.Ref))
	try(t,
		gives(`"x"`, append(pair, do(code.Field, 0))...),
		gives("6", append(pair, do(code.Field, 1))...),
		gives("7", append(pair, do(code.Field, 2))...),
		gives("8", do(code.Int, 8), do(code.Con, 3), do(code.Field, 0)),
		gives("(1 2)", do(code.Int, 1), do(code.Int, 2), do(code.Tuple, 2), do(code.Con, 3), do(code.Field, 0)),
		gives("1", append(cell, do(code.Get))...),
		gives("(0 {5})", rows(cell, row(do(code.Local, 1), do(code.Int, 5), do(code.Op, code.Set), do(code.Local, 1), do(code.Tuple, 2), do(code.Slide, 1)))...),
		gives("{\"new\"}", rows(cell, row(do(code.Local, 1), text("new"), do(code.Op, code.Set), pop))...),
		gives("{{{{{{{{{...}}}}}}}}}", rows(cell, row(do(code.Local, 1), do(code.Local, 1), do(code.Op, code.Set), pop))...),
		gives("({9} {9})", rows(cell, row(do(code.Local, 1), do(code.Local, 1), do(code.Int, 9), do(code.Op, code.Set), pop, do(code.Local, 1), do(code.Tuple, 2), do(code.Slide, 1)))...),
	)
}

// P10.2: where it goes on.
func TestJumps(t *testing.T) {
	choice := func(l ...code.Ins) []code.Ins {
		n := int64(len(l))
		return append(l, do(code.False, n+3), do(code.Int, 11), do(code.Jump, n+4), do(code.Int, 22))
	}
	try(t,
		gives("22", choice(do(code.Int, 0))...),
		gives("11", choice(do(code.Int, 1))...),
		gives("11", choice(do(code.Int, 2))...),
		gives("11", choice(do(code.Int, -1))...),
		gives("11", choice(text(""))...),
		gives("22", choice(do(code.Int, math.MinInt64))...),
		gives("3", do(code.Jump, 3), do(code.Int, 1), ret, do(code.Int, 3)),
		gives("1", do(code.Int, 1), do(code.Jump, 2)),
		gives("1", do(code.Int, 1), do(code.Int, 0), do(code.False, 3)),
	)
}

// P10.2: the tests.
func TestTests(t *testing.T) {
	pair := row(do(code.Int, 5), do(code.Int, 6), do(code.Tuple, 2))
	con := row(do(code.Int, 5), do(code.Con, 6))
	isText := func(s string) code.Ins { return code.Ins{Op: code.IsText, S: s} }
	for _, c := range []struct {
		l    []code.Ins
		is   code.Ins
		want string
	}{
		{row(do(code.Int, 5)), do(code.IsInt, 5), "1"},
		{row(do(code.Int, 5)), do(code.IsInt, 4), "0"},
		{row(do(code.Int, -5)), do(code.IsInt, -5), "1"},
		{row(do(code.Int, -5)), do(code.IsInt, 5), "0"},
		{row(do(code.Int, most)), do(code.IsInt, most), "1"},
		{row(do(code.Int, least)), do(code.IsInt, least), "1"},
		{row(do(code.Int, most+1)), do(code.IsInt, most+1), "1"},
		{pair, do(code.IsInt, 5), "0"},
		{row(text("")), do(code.IsInt, 0), "0"},
		{con, do(code.IsInt, 6), "0"},
		{row(text("ab")), isText("ab"), "1"},
		{row(text("ab")), isText("a"), "0"},
		{row(text("ab")), isText("abc"), "0"},
		{row(text("ab\x00")), isText("ab"), "0"},
		{row(text("")), isText(""), "1"},
		{row(do(code.Int)), isText(""), "0"},
		{pair, isText(""), "0"},
		{row(do(code.Int, 5)), do(code.IsPtr), "0"},
		{row(do(code.Int, 0)), do(code.IsPtr), "0"},
		{pair, do(code.IsPtr), "1"},
		{row(text("")), do(code.IsPtr), "1"},
		{con, do(code.IsPtr), "1"},
		{row(do(code.Self)), do(code.IsPtr), "1"},
		{con, do(code.IsCon, 6), "1"},
		{con, do(code.IsCon, 5), "0"},
		{con, do(code.IsCon, 0), "0"},
		{row(do(code.Int, 6)), do(code.IsCon, 6), "0"},
		{pair, do(code.IsCon, 5), "0"},
		{pair, do(code.IsCon, 0), "0"},
		{row(text("")), do(code.IsCon, 0), "0"},
		{row(clos(identity, 0)), do(code.IsCon, identity), "0"},
		{row(do(code.Glob, 6)), do(code.IsCon, 6), "0"},
		{row(do(code.Int, 100000), do(code.Con, 100000)), do(code.IsCon, 100000), "1"},
	} {
		try(t, gives(c.want, append(append(row(), c.l...), c.is)...))
	}
}

// P10.2: numbers of 63 bits.
func TestArithmetic(t *testing.T) {
	for _, c := range []struct {
		sign, a, b, want int64
	}{
		{code.Add, 2, 3, 5}, {code.Add, -2, 3, 1}, {code.Add, most, 1, least}, {code.Add, least, -1, most}, {code.Add, least, least, 0}, {code.Add, most, most, -2},
		{code.Sub, 2, 3, -1}, {code.Sub, least, 1, most}, {code.Sub, most, -1, least}, {code.Sub, 0, least, least}, {code.Sub, least, least, 0},
		{code.Mul, 2, 3, 6}, {code.Mul, -2, 3, -6}, {code.Mul, 1 << 31, 1 << 31, least}, {code.Mul, 1 << 32, 1 << 31, 0}, {code.Mul, least, -1, least}, {code.Mul, most, most, 1}, {code.Mul, 3, 1 << 61, -(1 << 61)}, {code.Mul, 3037000500, 3037000500, 3037000500*3037000500 - 1<<63},
		{code.Div, 7, 2, 3}, {code.Div, -7, 2, -3}, {code.Div, 7, -2, -3}, {code.Div, -7, -2, 3}, {code.Div, least, -1, least}, {code.Div, least, 1, least}, {code.Div, 1, 2, 0}, {code.Div, -1, 2, 0}, {code.Div, 0, 5, 0}, {code.Div, most, least, 0},
		{code.Mod, 7, 2, 1}, {code.Mod, -7, 2, -1}, {code.Mod, 7, -2, 1}, {code.Mod, -7, -2, -1}, {code.Mod, least, -1, 0}, {code.Mod, 6, 3, 0}, {code.Mod, 2, 5, 2}, {code.Mod, -2, 5, -2}, {code.Mod, most, least, most},
		{code.Lt, 1, 2, 1}, {code.Lt, 2, 1, 0}, {code.Lt, 2, 2, 0}, {code.Lt, -1, 0, 1}, {code.Lt, 0, -1, 0}, {code.Lt, least, most, 1}, {code.Lt, most, least, 0},
		{code.Le, 1, 2, 1}, {code.Le, 2, 1, 0}, {code.Le, 2, 2, 1}, {code.Le, -1, 0, 1}, {code.Le, 0, -1, 0}, {code.Le, least, most, 1}, {code.Le, most, least, 0},
	} {
		try(t, gives(strconv.FormatInt(c.want, 10), two(c.sign, c.a, c.b)...))
	}
	for _, sign := range []int64{code.Div, code.Mod} {
		for _, a := range []int64{0, 1, -1, most, least} {
			try(t, trial{two(sign, a, 0), "E9; raised div; fuel 10"})
		}
	}
}

// P10.2: Cat, whose text has at most 4096 bytes, as all texts.
func TestTexts(t *testing.T) {
	cat := func(a, b string) []code.Ins { return row(text(a), text(b), do(code.Op, code.Cat)) }
	try(t,
		gives(`"abc"`, cat("ab", "c")...),
		gives(`"ab"`, cat("ab", "")...),
		gives(`"ab"`, cat("", "ab")...),
		gives(`""`, cat("", "")...),
		gives(`"\x00\xff"`, cat("\x00", "\xff")...),
	)
	long := strings.Repeat("12345678", 512)
	for _, c := range []struct {
		l []code.Ins
		n int
	}{
		{row(text(long)), 4096}, {row(text(long + "9")), -1}, {row(text(long + long)), -1},
		{cat(long, ""), 4096}, {cat(long[1:], "9"), 4096}, {cat(long, "9"), -1}, {cat("9", long), -1}, {cat(long[:2048], long[:2049]), -1}, {cat(long, long), -1},
	} {
		m := made(t, 5000, fun(append(row(), c.l...)...))
		r := m.Run(0, 0, 0, 0)
		if c.n < 0 && (r.E != api.ErrRaise || r.Raise != "long") || c.n >= 0 && (r.E != api.OK || m.Heap().Len(r.W) != c.n) {
			t.Errorf("%d instructions: %s", len(c.l), told(m, r))
		}
	}
}

// P10.2: what is captured, and who calls whom.
func TestCalls(t *testing.T) {
	try(t,
		trial{row(do(code.Int, 5), text("x"), clos(three, 2), do(code.Int, 6), call), `E0; (5 "x" 6); fuel 9`},
		trial{row(clos(identity, 0), text("x"), call), `E0; "x"; fuel 9`},
		trial{row(clos(itself, 0), do(code.Int), call), "E0; <fun 3>; fuel 9"},
		trial{row(clos(deep, 0), clos(identity, 0), call), `E0; (7 "kept" 5); fuel 8`},
		trial{row(clos(deep, 0), do(code.Int, 1), do(code.Int, 2), clos(three, 2), call), `E0; (7 "kept" (1 2 5)); fuel 8`},
		trial{row(do(code.Int, 1), clos(deep, 0), clos(deep, 0), clos(identity, 0), call, do(code.Field, 0), pop, do(code.Tuple, 2)), `E0; (1 <fun 4>); fuel 8`},
		trial{row(do(code.Int, 3), clos(countTo, 1), do(code.Int, 0), call), "E0; 0; fuel 9"},
		trial{row(do(code.Int, 3), clos(countTo, 1), do(code.Int, 4), call), "E0; 12; fuel 5"},
		trial{row(do(code.Int, 3), clos(countTo, 1), do(code.Int, 9), call), "E0; 27; fuel 0"},
		trial{row(do(code.Int, 3), clos(countTo, 1), do(code.Int, 10), call), "E10; fuel 0"},
		trial{row(do(code.Self), do(code.Int), call), "E10; fuel 0"},
	)
}

// P10.2: the predefined functions.
func TestPredefined(t *testing.T) {
	of := func(prim int64, l ...code.Ins) []code.Ins { return called(prim, l...) }
	then := func(l ...[]code.Ins) []code.Ins {
		var out []code.Ins
		for i, x := range l {
			if i > 0 {
				out = append(out, pop)
			}
			out = append(out, x...)
		}
		return out
	}
	try(t,
		trial{of(fail, text("x")), "E9; raised x; fuel 9"},
		trial{of(fail, text("")), "E9; fuel 9"},
		trial{of(itoa, do(code.Int, 0)), `E0; "0"; fuel 9`},
		trial{of(itoa, do(code.Int, 1234567890)), `E0; "1234567890"; fuel 9`},
		trial{of(itoa, do(code.Int, -5)), `E0; "-5"; fuel 9`},
		trial{of(itoa, do(code.Int, least)), `E0; "-4611686018427387904"; fuel 9`},
		trial{of(move, do(code.Int, 5)), "E0; 0; move 5; fuel 9"},
		trial{of(turn, do(code.Int, -5)), "E0; 0; turn -5; fuel 9"},
		trial{of(move, do(code.Int, least)), "E0; 0; move -4611686018427387904; fuel 9"},
		trial{then(of(turn, do(code.Int, 1)), of(move, do(code.Int, 2))), "E0; 0; turn 1; move 2; fuel 8"},
		trial{then(of(turn, do(code.Int, 1)), of(move, do(code.Int, 2)), of(move, do(code.Int, 3))), "E9; raised moves; turn 1; move 2; fuel 7"},
		trial{then(of(turn, do(code.Int, 1)), of(turn, do(code.Int, 2)), of(turn, do(code.Int, 3))), "E9; raised moves; turn 1; turn 2; fuel 7"},
		trial{of(not, do(code.Int, 0)), "E0; 1; fuel 9"},
		trial{of(not, do(code.Int, 1)), "E0; 0; fuel 9"},
		trial{of(not, do(code.Int, 6)), "E0; -5; fuel 9"},
		trial{of(not, do(code.Int, least)), "E0; -4611686018427387903; fuel 9"},
		trial{of(print, text("abc")), "E0; 0; out abc; fuel 9"},
		trial{of(print, text("abcde")), "E0; 0; out abcde; fuel 9"},
		trial{of(print, text("abcdef")), "E0; 0; out abcde; fuel 9"},
		trial{then(of(print, text("ab")), of(print, text("")), of(print, text("cdef")), of(print, text("x"))), "E0; 0; out abcde; fuel 6"},
		trial{then(of(print, text("ab")), of(fail, text("cd"))), "E9; raised cd; out ab; fuel 8"},
		trial{of(ref, do(code.Int, 3)), "E0; {3}; fuel 9"},
		trial{of(ref, text("x")), `E0; {"x"}; fuel 9`},
		trial{of(size, text("")), "E0; 0; fuel 9"},
		trial{of(size, text("\x00\xff123456789")), "E0; 11; fuel 9"},
		trial{row(clos(deep, 0), do(code.Glob, itoa), call), `E0; (7 "kept" "5"); fuel 8`},
	)
}

// P10.2: how much is printed, and how many moves there are.
func TestRoom(t *testing.T) {
	m := made(t, 200, fun(rows(called(print, text("hello")), row(pop), called(print, text(" you")))...), fun(rows(called(move, do(code.Int, 1)), row(pop), called(turn, do(code.Int, 2)))...))
	for room := range 12 {
		if r := m.Run(0, 9, 0, room); r.E != api.OK || r.Out != "hello you"[:min(room, 9)] {
			t.Errorf("room for %d: %s", room, told(m, r))
		}
	}
	if r := m.Run(0, 9, 0, math.MaxInt); r.Out != "hello you" {
		t.Errorf("room for very many: %s", told(m, r))
	}
	for moves, want := range []string{"E9; raised moves; fuel 8", "E9; raised moves; move 1; fuel 7", "E0; 0; move 1; turn 2; fuel 7", "E0; 0; move 1; turn 2; fuel 7"} {
		if got := told(m, m.Run(1, 9, moves, 0)); got != want {
			t.Errorf("%d moves: %s, not %s", moves, got, want)
		}
	}
	if got := told(m, m.Run(1, 9, math.MaxInt, 0)); got != "E0; 0; move 1; turn 2; fuel 7" {
		t.Errorf("very many moves: %s", got)
	}
}

// P10.2: what Run refuses.
func TestRunArguments(t *testing.T) {
	m := made(t, 100, fun(do(code.Int, 4)), code.Fun{Caps: 1, Code: row(do(code.Cap), ret)}, fun(do(code.Int, 5)))
	before := stateOf(m)
	for _, c := range []struct {
		fun, fuel, moves, room int
		ok                     bool
	}{
		{0, 0, 0, 0, true}, {2, 0, 0, 0, true}, {0, api.MaxFuel, math.MaxInt, math.MaxInt, true}, {2, api.MaxFuel, api.MaxMoves, api.MaxOut, true},
		{1, 0, 0, 0, false}, {3, 0, 0, 0, false}, {-1, 5, 5, 5, false}, {math.MaxInt, 5, 5, 5, false}, {math.MinInt, 5, 5, 5, false},
		{0, -1, 0, 0, false}, {0, api.MaxFuel + 1, 0, 0, false}, {0, math.MinInt, 0, 0, false}, {0, math.MaxInt, 0, 0, false},
		{0, 0, -1, 0, false}, {0, 0, 0, -1, false}, {0, 0, math.MinInt, 0, false}, {0, 0, 0, math.MinInt, false},
	} {
		r := m.Run(c.fun, c.fuel, c.moves, c.room)
		if c.ok && (r.E != api.OK || r.W != num(int64(4+c.fun/2)) || r.Fuel != c.fuel) {
			t.Errorf("Run(%d, %d, %d, %d): %v", c.fun, c.fuel, c.moves, c.room, r)
		}
		if !c.ok && (r.E != api.ErrArg || r.W != 0 || r.Raise != "" || r.Out != "" || len(r.Moves) != 0 || r.Fuel != 0) {
			t.Errorf("Run(%d, %d, %d, %d): %v", c.fun, c.fuel, c.moves, c.room, r)
		}
	}
	mustBe(t, "after Run", m, before)
}

// P10.2: a function's argument is 0 where Run calls it; what it makes stays.
func TestRunAgain(t *testing.T) {
	m := made(t, 100)
	w, _ := m.Heap().Put(heap.KRef, []word{num(0)}, nil)
	if m.Bind(w) != api.OK {
		t.Fatal("Bind")
	}
	keep := row(do(code.Glob, 8), do(code.Glob, 8), do(code.Get), arg, text("x"), do(code.Tuple, 3), do(code.Op, code.Set))
	if e := m.Add([]code.Fun{fun(keep...), fun(do(code.Glob, 8), do(code.Get))}); e != api.OK {
		t.Fatal(e)
	}
	for _, want := range []string{`E0; 0; fuel 5`, `E0; (0 0 "x"); fuel 5`, `E0; ((0 0 "x") 0 "x"); fuel 5`} {
		if got := told(m, m.Run(1, 5, 0, 0)); got != want {
			t.Errorf("%s, not %s", got, want)
		}
		if got := told(m, m.Run(0, 5, 0, 0)); got != "E0; 0; fuel 5" {
			t.Errorf("%s", got)
		}
	}
}
