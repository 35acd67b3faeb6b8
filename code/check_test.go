package code_test

import (
	"math"
	"math/rand"
	"testing"

	"battledore/code"
)

// do: an instruction, without a number or with one.
func do(op byte, n ...int64) code.Ins {
	x := code.Ins{Op: op}
	if len(n) > 0 {
		x.N = n[0]
	}
	return x
}

func clos(n int64, a int) code.Ins { return code.Ins{Op: code.Clos, N: n, A: a} }

func row(l ...code.Ins) []code.Ins { return l }

var (
	unit = do(code.Int)
	ret  = do(code.Ret)
	fail = do(code.Fail)
	pop  = do(code.Pop)
)

// P8.2: functions, each beside one that captures two values, and one that captures none, with three globals; valid, or not.
func TestCheck(t *testing.T) {
	many := func(n int, l ...code.Ins) []code.Ins {
		var out []code.Ins
		for range n {
			out = append(out, unit)
		}
		return append(out, l...)
	}
	for _, c := range []struct {
		what string
		code []code.Ins
		ok   bool
	}{
		{"no instructions", nil, false},
		{"Local 0", row(do(code.Local), ret), true},
		{"Ret alone", row(ret), false},
		{"Fail alone", row(fail), true},
		{"no end", row(unit), false},
		{"no end after Pop", row(unit, pop), false},
		{"no end after Try", row(do(code.Try, 1)), false},
		{"Ret of two", row(unit, unit, ret), false},
		{"Ret of one, twice", row(unit, ret, ret), true},
		{"what isn't reached", row(unit, ret, pop, do(99), clos(77, 1), do(code.Jump, -1), do(code.Local, -5)), true},
		{"what isn't reached after Fail", row(fail, do(code.Local, 9)), true},
		{"what isn't reached after Jump", row(do(code.Jump, 2), do(99), unit, ret), true},

		{"the last opcode", row(do(code.Fail), do(code.Fail)), true},
		{"an opcode beyond", row(do(code.Fail+1), fail), false},
		{"the opcode 255", row(do(255), unit, ret), false},

		{"the local 1", row(unit, do(code.Local, 1), do(code.Slide, 1), ret), true},
		{"the local 1, not there", row(do(code.Local, 1), ret), false},
		{"the local -1", row(do(code.Local, -1), ret), false},
		{"the local of 2^62", row(do(code.Local, 1<<62), ret), false},
		{"no capture", row(do(code.Cap), ret), false},
		{"the global 2", row(do(code.Glob, 2), ret), true},
		{"the global 3", row(do(code.Glob, 3), ret), false},
		{"the global -1", row(do(code.Glob, -1), ret), false},
		{"Text, Self", row(do(code.Text), do(code.Self), pop, ret), true},
		{"any number", row(do(code.Int, math.MinInt64), do(code.IsInt, math.MaxInt64), do(code.Neg, -1), do(code.Get, 9), do(code.Ref, 7), code.Ins{Op: code.IsText, N: -4, A: -3, S: "x"}, do(code.IsPtr), ret), true},

		{"Clos of one without captures", row(clos(2, 0), ret), true},
		{"Clos of itself", row(clos(0, 0), ret), true},
		{"Clos of one with two", row(unit, unit, clos(1, 2), ret), true},
		{"Clos with one more", row(unit, unit, unit, clos(1, 3), ret), false},
		{"Clos with one less", row(unit, clos(1, 1), ret), false},
		{"Clos with none of two", row(unit, unit, clos(1, 0), pop, ret), false},
		{"Clos of one that isn't there", row(clos(3, 0), ret), false},
		{"Clos of -1", row(clos(-1, 0), ret), false},
		{"Clos of -1 of them", row(clos(2, -1), ret), false},
		{"Clos takes the first one", row(unit, clos(1, 2), ret), false},
		{"Clos takes more than there are", row(clos(1, 2), ret), false},

		{"Call", row(unit, unit, do(code.Call), ret), true},
		{"Call takes the first one", row(unit, do(code.Call), ret), false},
		{"Call of nothing", row(do(code.Call), ret), false},

		{"Tuple 2", row(unit, unit, do(code.Tuple, 2), ret), true},
		{"Tuple 2 takes the first one", row(unit, do(code.Tuple, 2), ret), false},
		{"Tuple 1", row(unit, do(code.Tuple, 1), ret), false},
		{"Tuple 0", row(do(code.Tuple, 0), ret), false},
		{"Tuple -1", row(do(code.Tuple, -1), ret), false},
		{"Tuple 1000", many(1000, do(code.Tuple, 1000), ret), true},
		{"Tuple 1001", many(1001, do(code.Tuple, 1001), ret), false},
		{"Tuple 1000 of fewer", many(999, do(code.Tuple, 1000), ret), false},

		{"Slide 1", row(unit, unit, do(code.Slide, 1), ret), true},
		{"Slide 3", many(4, do(code.Slide, 3), ret), true},
		{"Slide 1 takes the first one", row(unit, do(code.Slide, 1), ret), false},
		{"Slide 2 takes the first one", row(unit, unit, do(code.Slide, 2), ret), false},
		{"Slide 0", row(unit, do(code.Slide, 0), ret), false},
		{"Slide -1", row(unit, do(code.Slide, -1), ret), false},
		{"Slide, the greatest", row(unit, do(code.Slide, math.MaxInt64), ret), false},
		{"Slide, the least", row(unit, do(code.Slide, math.MinInt64), ret), false},
		{"Slide 2000", many(2001, do(code.Slide, 2000), ret), true},

		{"Con 0, Field 0, IsCon 0", row(unit, do(code.Con), do(code.Field), do(code.IsCon), ret), true},
		{"Con, Field, IsCon 100000", row(unit, do(code.Con, 100000), do(code.Field, 100000), do(code.IsCon, 100000), ret), true},
		{"Con 100001", row(unit, do(code.Con, 100001), ret), false},
		{"Field 100001", row(unit, do(code.Field, 100001), ret), false},
		{"IsCon 100001", row(unit, do(code.IsCon, 100001), ret), false},
		{"Con -1", row(unit, do(code.Con, -1), ret), false},
		{"Field -1", row(unit, do(code.Field, -1), ret), false},
		{"IsCon -1", row(unit, do(code.IsCon, -1), ret), false},

		{"Op Add", row(unit, unit, do(code.Op, code.Add), ret), true},
		{"Op Set", row(unit, unit, do(code.Op, code.Set), ret), true},
		{"Op beyond", row(unit, unit, do(code.Op, code.Set+1), ret), false},
		{"Op -1", row(unit, unit, do(code.Op, -1), ret), false},
		{"Op takes the first one", row(unit, do(code.Op, code.Add), ret), false},
		{"Pop takes the first one", row(pop, unit, unit, ret), false},

		{"Jump on", row(unit, do(code.Jump, 2), ret), true},
		{"Jump to itself", row(unit, do(code.Jump, 1), ret), false},
		{"Jump back", row(unit, do(code.Jump, 0), ret), false},
		{"Jump to -1", row(unit, do(code.Jump, -1), ret), false},
		{"Jump beyond", row(unit, do(code.Jump, 3), ret), false},
		{"Jump far beyond", row(unit, do(code.Jump, math.MaxInt64), ret), false},
		{"Jump at the end", row(do(code.Jump, 2), fail, fail), true},

		{"False", row(unit, do(code.False, 3), fail, fail), true},
		{"False, both alike", row(unit, do(code.False, 4), unit, do(code.Jump, 5), unit, ret), true},
		{"False, one deeper", row(unit, do(code.False, 3), unit, unit, ret), false},
		{"False, the other one deeper", row(unit, unit, do(code.False, 4), pop, ret), false},
		{"False to itself", row(unit, do(code.False, 1), unit, ret), false},
		{"False to the next one", row(unit, do(code.False, 2), unit, ret), true},
		{"False beyond", row(unit, do(code.False, 4), unit, ret), false},
		{"False, and no next one", row(unit, do(code.False, 2)), false},
		{"False takes the first one", row(do(code.False, 1), unit, ret), false},

		{"Try, Untry", row(do(code.Try, 4), unit, do(code.Untry), do(code.Jump, 4), ret), true},
		{"Try to the next one", row(do(code.Try, 1), unit, ret), false},
		{"Try leads with a text", row(do(code.Try, 2), fail, ret), true},
		{"Try leads without one", row(do(code.Try, 2), fail, unit, ret), false},
		{"Try leads where it is open", row(do(code.Try, 2), unit, do(code.Untry), ret), false},
		{"Try isn't closed", row(do(code.Try, 3), unit, ret, ret), false},
		{"Try isn't closed, at a Fail", row(do(code.Try, 3), unit, fail, ret), true},
		{"Try is closed once too often", row(do(code.Try, 4), unit, do(code.Untry), do(code.Untry), ret), false},
		{"Untry alone", row(do(code.Untry), unit, ret), false},
		{"Try within Try", row(do(code.Try, 7), do(code.Try, 4), unit, do(code.Untry), do(code.Untry), do(code.Jump, 7), fail, ret), true},
		{"Try within Try leads out, where one is open", row(do(code.Try, 6), do(code.Try, 5), unit, do(code.Untry), do(code.Untry), ret, ret), false},
		{"Try within Try leads in, where one is open", row(do(code.Try, 5), do(code.Try, 4), unit, do(code.Untry), do(code.Untry), ret), true},
		{"Try back", row(unit, do(code.Try, 0), ret), false},
		{"Try to itself", row(do(code.Try, 0), fail), false},
		{"Try beyond", row(do(code.Try, 2), fail), false},
		{"Try, and no next one", row(do(code.Try, 1)), false},
		{"Try: what is taken inside", row(unit, do(code.Try, 4), pop, fail, pop, ret), true},
		{"two ways, one with a try", row(unit, do(code.False, 3), do(code.Try, 4), fail, pop, fail), false},
	} {
		all := []code.Fun{{Code: c.code}, {Caps: 2, Code: row(do(code.Cap, 1), ret)}, {Code: row(fail)}}
		if code.Check(all, 3) != c.ok {
			t.Errorf("%s: not %v", c.what, c.ok)
		}
		all[0], all[2] = all[2], all[0]
		for i, x := range all[2].Code {
			if x.Op == code.Clos && (x.N == 0 || x.N == 2) {
				all[2].Code[i].N = 2 - x.N
			}
		}
		if code.Check(all, 3) != c.ok {
			t.Errorf("%s, as the last one: not %v", c.what, c.ok)
		}
	}
}

// P8.2: what is captured, and globals.
func TestCaps(t *testing.T) {
	for _, c := range []struct {
		caps  int
		n     int64
		globs int
		ok    bool
	}{
		{1, 0, 0, true}, {1, 1, 0, false}, {1, -1, 0, false}, {0, 0, 0, false}, {3, 2, 0, true}, {3, 3, 0, false}, {-1, 0, 0, false}, {-1, -1, 0, false}, {math.MaxInt, 1 << 62, 0, true}, {2, 1, -1, true}, {2, 1, math.MinInt, true},
	} {
		if code.Check([]code.Fun{{Caps: c.caps, Code: row(do(code.Cap, c.n), ret)}}, c.globs) != c.ok {
			t.Errorf("Cap %d of %d: not %v", c.n, c.caps, c.ok)
		}
	}
	for globs, ok := range map[int]bool{0: false, 1: false, 2: true, -1: false, math.MinInt: false, math.MaxInt: true} {
		if code.Check([]code.Fun{{Code: row(do(code.Glob, 1), ret)}}, globs) != ok {
			t.Errorf("Glob 1 of %d: not %v", globs, ok)
		}
	}
	if !code.Check(nil, 0) || !code.Check([]code.Fun{}, -1) {
		t.Error("no functions aren't valid")
	}
	if code.Check([]code.Fun{{Caps: -1, Code: row(unit, ret)}}, 0) || code.Check([]code.Fun{{Code: row(unit, ret)}, {Caps: -1, Code: row(fail)}}, 0) {
		t.Error("-1 captures")
	}
	if code.Check([]code.Fun{{Code: row(clos(1, -1), unit, ret)}, {Caps: -1, Code: row(fail)}}, 0) {
		t.Error("Clos of -1 captures")
	}
}

// reached is how an instruction may be reached.
type reached struct{ at, depth, tries int }

// isFine: may a function run, tried in every way in which its instructions can be reached?
func isFine(all []code.Fun, f code.Fun, globs int) bool {
	if f.Caps < 0 {
		return false
	}
	seen, ways := map[reached]bool{}, map[int]int{}
	todo := []reached{{0, 1, 0}}
	for len(todo) > 0 {
		r := todo[0]
		todo = todo[1:]
		if seen[r] {
			continue
		}
		seen[r] = true
		ways[r.at]++
		if r.at >= len(f.Code) || ways[r.at] > 1 {
			return false
		}
		next, ok := follow(all, f, globs, r)
		if !ok {
			return false
		}
		todo = append(todo, next...)
	}
	return true
}

// follow: how the next instructions are reached, if this one is allowed.
func follow(all []code.Fun, f code.Fun, globs int, r reached) ([]reached, bool) {
	x := f.Code[r.at]
	n := int(x.N)
	later := n > r.at
	on := func(taken, left int, ok bool) ([]reached, bool) {
		return []reached{{r.at + 1, r.depth - taken + left, r.tries}}, ok && taken < r.depth
	}
	switch x.Op {
	case code.Int, code.Text, code.Self:
		return on(0, 1, true)
	case code.Local:
		return on(0, 1, 0 <= n && n < r.depth)
	case code.Cap:
		return on(0, 1, 0 <= n && n < f.Caps)
	case code.Glob:
		return on(0, 1, 0 <= n && n < globs)
	case code.Clos:
		return on(x.A, 1, 0 <= n && n < len(all) && all[n].Caps == x.A)
	case code.Call:
		return on(2, 1, true)
	case code.Op:
		return on(2, 1, 0 <= n && n <= 10)
	case code.Ret:
		return nil, r.depth == 2 && r.tries == 0
	case code.Tuple:
		return on(n, 1, 2 <= n && n <= 1000)
	case code.Con, code.Field, code.IsCon:
		return on(1, 1, 0 <= n && n <= 100000)
	case code.IsInt, code.IsText, code.IsPtr, code.Neg, code.Ref, code.Get:
		return on(1, 1, true)
	case code.Slide:
		return on(n+1, 1, 1 <= n)
	case code.Pop:
		return on(1, 0, true)
	case code.Fail:
		return nil, true
	case code.Jump:
		return []reached{{n, r.depth, r.tries}}, later
	case code.False:
		return []reached{{n, r.depth - 1, r.tries}, {r.at + 1, r.depth - 1, r.tries}}, later && r.depth > 1
	case code.Try:
		return []reached{{n, r.depth + 1, r.tries}, {r.at + 1, r.depth, r.tries + 1}}, later
	case code.Untry:
		return []reached{{r.at + 1, r.depth, r.tries - 1}}, r.tries > 0
	}
	return nil, false
}

// someCode: instructions most of which are likely to be allowed.
func someCode(rnd *rand.Rand, funs []code.Fun) []code.Ins {
	var l []code.Ins
	depth, tries := 1, 0
	for n := rnd.Intn(14); len(l) < n; {
		x := do(byte(rnd.Intn(27)), int64(rnd.Intn(4)))
		switch x.Op {
		case code.Clos:
			x.A = funs[min(int(x.N), len(funs)-1)].Caps
		case code.Jump, code.False, code.Try:
			x.N = int64(len(l) + 1 + rnd.Intn(5) - rnd.Intn(12)/11)
		}
		next, ok := follow(funs, code.Fun{Caps: 1, Code: append(l, x)}, 2, reached{len(l), depth, tries})
		if !ok && rnd.Intn(60) > 0 {
			continue
		}
		for _, r := range next {
			if r.at == len(l)+1 {
				depth, tries = r.depth, r.tries
			}
		}
		l = append(l, x)
	}
	for tries > 0 && rnd.Intn(20) > 0 {
		l, tries = append(l, do(code.Untry)), tries-1
	}
	if depth == 1 {
		return append(l, unit, ret)
	}
	if depth > 2 {
		l = append(l, do(code.Slide, int64(depth-2)))
	}
	return append(l, ret)
}

// P8.2: any functions are valid if and only if they are fine in every way.
func TestRandomCheck(t *testing.T) {
	valid, jumps := 0, 0
	for seed := range int64(60000) {
		rnd := rand.New(rand.NewSource(seed))
		funs := []code.Fun{{Code: row(fail)}, {Caps: rnd.Intn(3), Code: row(fail)}, {Caps: 1}}
		funs[2].Code = someCode(rnd, funs)
		if rnd.Intn(50) == 0 {
			funs[rnd.Intn(3)].Caps = -1
		}
		want := true
		for _, f := range funs {
			want = want && isFine(funs, f, 2)
		}
		if code.Check(funs, 2) != want {
			t.Fatalf("%v: not %v", funs, want)
		}
		if want {
			valid++
			for _, x := range funs[2].Code {
				if x.Op == code.Jump || x.Op == code.Try || x.Op == code.False {
					jumps++
				}
			}
		}
	}
	if valid < 6000 || valid > 54000 || jumps < 2000 {
		t.Errorf("%d of 60000 are valid, with %d jumps", valid, jumps)
	}
}

// P1: instructions with any numbers.
func TestAnyInstruction(t *testing.T) {
	numbers := []int64{0, 1, 2, 3, -1, 1 << 20, 1 << 32, math.MaxInt64, math.MinInt64, math.MaxInt64 - 1}
	for op := range 256 {
		for _, n := range numbers {
			for _, a := range numbers {
				x := code.Ins{Op: byte(op), N: n, A: int(a)}
				for _, caps := range []int{0, 1, math.MaxInt, math.MinInt, int(a)} {
					l := []code.Fun{{Caps: caps, Code: row(unit, unit, x, x, ret)}, {Caps: int(a), Code: row(x)}}
					want := isFine(l, l[0], int(a)) && isFine(l, l[1], int(a))
					if n != math.MaxInt64 && code.Check(l, int(a)) != want {
						t.Fatalf("%v: not %v", l, want)
					}
					code.Check(l, 3)
				}
			}
		}
	}
}

// P1: very many instructions.
func TestManyInstructions(t *testing.T) {
	var l []code.Ins
	const n = 1 << 20
	for i := range n {
		l = append(l, do(code.Try, int64(2*n-i)))
	}
	l = append(l, fail)
	for range n {
		l = append(l, pop)
	}
	soon(t, "a million tries", func() {
		if code.Check([]code.Fun{{Code: l}}, 0) {
			t.Error("tries that lead to where others are open")
		}
	})
	l = nil
	for i := range n {
		l = append(l, unit, do(code.False, int64(2*i+2)))
	}
	l = append(l, unit, ret)
	soon(t, "a million jumps", func() {
		if !code.Check([]code.Fun{{Code: l}}, 0) {
			t.Error("jumps to the next one")
		}
	})
}
