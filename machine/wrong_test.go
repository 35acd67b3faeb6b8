package machine_test

import (
	"math"
	"math/rand"
	"runtime/debug"
	"slices"
	"testing"

	"battledore/api"
	"battledore/code"
	"battledore/heap"
	"battledore/machine"
)

// isResult asks for what any run may come to.
func isResult(t *testing.T, m *machine.Machine, r machine.Result, fuel, moves, room int) {
	t.Helper()
	switch r.E {
	case api.OK, api.ErrRaise, api.ErrFuel, api.ErrMem, api.ErrForm:
	default:
		t.Errorf("the error %d", r.E)
	}
	if r.E != api.OK && r.W != 0 || r.E != api.ErrRaise && r.Raise != "" || r.Fuel < 0 || r.Fuel > fuel || len(r.Moves) > moves || len(r.Out) > room || r.E == api.ErrFuel && r.Fuel != 0 {
		t.Errorf("%s", told(m, r))
	}
}

// values: instructions that leave a value of each kind.
var values = [][]code.Ins{
	row(do(code.Int, 0)), row(do(code.Int, 1)), row(do(code.Int, -9)), row(text("")), row(text("text")),
	row(do(code.Int, 1), do(code.Int, 2), do(code.Tuple, 2)), row(do(code.Int, 3), do(code.Con, 3)), row(do(code.Int, 4), do(code.Ref)),
	row(clos(identity, 0)), row(do(code.Int), do(code.Int), clos(three, 2)), row(do(code.Glob, print)), row(do(code.Glob, 8)), row(do(code.Glob, 9)), row(do(code.Glob, 10)), row(do(code.Glob, 11)),
}

// strange: a machine with a predefined function that doesn't exist, and objects that are not as instructions make them.
func strange(t *testing.T, f code.Fun) *machine.Machine {
	t.Helper()
	m, e := machine.New(300, 11)
	if e != api.OK {
		t.Fatal(e)
	}
	h := m.Heap()
	empty, _ := h.Put(heap.KFun, nil, nil)
	other, _ := h.Put(heap.KPrim, []word{empty}, nil)
	m.Bind(empty)
	m.Bind(other)
	if e := m.Add(append([]code.Fun{f}, beside...)); e != api.OK {
		t.Fatalf("%v: %d", f.Code, e)
	}
	return m
}

// P1, P10.4: instructions on values of other kinds than theirs; where they can't go on it is ErrForm, and that isn't caught.
func TestOtherKinds(t *testing.T) {
	one := []code.Ins{do(code.Field, 0), do(code.Field, 5), do(code.Field, 100000), do(code.Get), do(code.Neg), do(code.IsInt, 4), {Op: code.IsText, S: "x"}, do(code.IsPtr), do(code.IsCon, 3), do(code.Con, 9), do(code.Ref)}
	for _, v := range values {
		for _, x := range one {
			m := strange(t, fun(append(append(row(), v...), x)...))
			isResult(t, m, m.Run(0, 5, 5, 5), 5, 5, 5)
		}
		m := strange(t, fun(append(append(row(), v...), do(code.False, int64(len(v)+1)), do(code.Int))...))
		isResult(t, m, m.Run(0, 5, 5, 5), 5, 5, 5)
		for _, w := range values {
			both := slices.Concat(v, w)
			for sign := code.Add; sign <= code.Set; sign++ {
				m := strange(t, fun(append(append(row(), both...), do(code.Op, sign))...))
				isResult(t, m, m.Run(0, 5, 5, 5), 5, 5, 5)
			}
			m := strange(t, fun(append(append(row(), both...), call)...))
			isResult(t, m, m.Run(0, 5, 5, 5), 5, 5, 5)
			for prim := range int64(10) {
				m := strange(t, fun(called(prim, w...)...))
				isResult(t, m, m.Run(0, 5, 5, 5), 5, 5, 5)
			}
		}
	}
	for _, l := range [][]code.Ins{
		row(do(code.Int), do(code.Int), call), row(text("x"), do(code.Int), call), row(do(code.Int), do(code.Ref), do(code.Int), call),
		called(8, do(code.Int)), called(9, do(code.Int)), called(11, do(code.Int)), called(12, do(code.Int)),
		called(fail, do(code.Int)), called(itoa, text("x")), called(move, text("x")), called(turn, text("x")), called(not, text("x")), called(print, do(code.Int)), called(size, do(code.Int)), called(size, do(code.Int), do(code.Ref)),
		row(text("x"), do(code.Int, 1), do(code.Op, code.Add)), row(do(code.Int, 1), text("x"), do(code.Op, code.Lt)), row(do(code.Int, 1), text("x"), do(code.Op, code.Cat)), row(text("x"), do(code.Int, 1), do(code.Op, code.Cat)), row(text("x"), do(code.Int, 1), do(code.Op, code.Set)), row(text("x"), do(code.Neg)), row(text("x"), do(code.Get)), row(do(code.Int), do(code.Get)),
		row(do(code.Int), do(code.Field)), row(text("x"), do(code.Field)), row(do(code.Int), do(code.Int), do(code.Tuple, 2), do(code.Field, 2)), row(do(code.Int), do(code.Con), do(code.Field, 1)),
	} {
		m := strange(t, fun(rows(row(do(code.Try, int64(len(l)+3))), l, row(do(code.Untry), do(code.Jump, int64(len(l)+3))))...))
		before := stateOf(m)
		if r := m.Run(0, 5, 5, 5); r.E != api.ErrForm || r.W != 0 {
			t.Errorf("%v: %s", l, told(m, r))
		}
		mustBe(t, "what can't go on", m, before)
	}
}

// P1: a function that isn't there, or captures another number of values.
func TestWrongFunctions(t *testing.T) {
	h, _ := heap.New(200)
	var globs []word
	for _, l := range [][]word{{}, {num(1)}, {num(2)}, {num(-1)}, {num(1), num(5)}, {num(2), num(5)}, {num(2), num(5), num(5)}, {num(math.MaxInt64)}, {num(least)}, {num(5000)}, {0}} {
		w, e := h.Put(heap.KFun, l, nil)
		if e != api.OK {
			t.Fatal(e)
		}
		globs = append(globs, w)
	}
	funs := []code.Fun{{}, fun(arg), {Caps: 1, Code: row(do(code.Cap), ret)}}
	for i := range globs {
		funs[0] = fun(do(code.Glob, int64(i)), do(code.Int, 8), call)
		m, e := machine.Restore(h, funs, globs)
		if e != api.OK {
			t.Fatal(e)
		}
		want := map[int]string{1: "E0; 8; fuel 2", 5: "E0; 5; fuel 2"}[i]
		if want == "" {
			want = "E3; fuel 2"
		}
		if got := told(m, m.Run(0, 3, 0, 0)); got != want {
			t.Errorf("the function %s: %s, not %s", show(h, globs[i], 3), got, want)
		}
	}
}

// P1: whatever valid functions do.
func TestAnyFunctions(t *testing.T) {
	ends := map[api.Errno]int{}
	for seed := range int64(40000) {
		rnd := rand.New(rand.NewSource(seed))
		m, e := machine.New(20+rnd.Intn(60), 9)
		if e != api.OK {
			t.Fatal(e)
		}
		l := []code.Fun{{Caps: 0}, {Caps: 1}, {Caps: 2}, fun(arg)}
		for i := range 3 {
			l[i].Code = anyCode(rnd, l[i].Caps)
		}
		if e := m.Add(l); e != api.OK {
			t.Fatalf("%v: %d", l, e)
		}
		fuel := rnd.Intn(60)
		copy := m.Copy()
		r := m.Run(0, fuel, 2, 4)
		isResult(t, m, r, fuel, 2, 4)
		if again := copy.Run(0, fuel, 2, 4); told(copy, again) != told(m, r) {
			t.Fatalf("%v: %s, then %s", l, told(m, r), told(copy, again))
		}
		ends[r.E]++
		if r.E == api.OK && m.Bind(r.W) != api.OK {
			t.Fatalf("%v: no value", l)
		}
		m.Tidy()
	}
	for _, e := range []api.Errno{api.OK, api.ErrRaise, api.ErrFuel, api.ErrMem, api.ErrForm} {
		if ends[e] < 100 {
			t.Errorf("%d of the functions come to %d", ends[e], e)
		}
	}
}

// anyCode: a valid function's instructions.
func anyCode(rnd *rand.Rand, caps int) []code.Ins {
	var l []code.Ins
	depth := int64(1)
	for range rnd.Intn(25) {
		n := int64(rnd.Intn(9))
		switch op := byte(rnd.Intn(27)); op {
		case code.Int, code.Text, code.Self, code.Glob:
			l, depth = append(l, code.Ins{Op: op, N: n, S: "text"}), depth+1
		case code.Local:
			l, depth = append(l, do(op, n%depth)), depth+1
		case code.Cap:
			if caps > 0 {
				l, depth = append(l, do(op, n%int64(caps))), depth+1
			}
		case code.Clos:
			if n = n % 4; depth > n%3 {
				l, depth = append(l, clos(n, int(n%3))), depth-n%3+1
			}
		case code.Call, code.Op:
			if depth > 2 {
				l, depth = append(l, do(op, n)), depth-1
			}
		case code.Con, code.Field, code.IsInt, code.IsText, code.IsPtr, code.IsCon, code.Neg, code.Ref, code.Get:
			if depth > 1 {
				l = append(l, do(op, n%3))
			}
		case code.Tuple:
			if depth > 2 {
				l, depth = append(l, do(op, 2)), depth-1
			}
		case code.Pop:
			if depth > 1 {
				l, depth = append(l, pop), depth-1
			}
		case code.Try:
			at := int64(len(l))
			l, depth = append(l, do(code.Try, at+5), do(code.Glob, n%2*4), do(code.Local), call, do(code.Untry)), depth+1
		}
	}
	if depth == 1 {
		return append(l, do(code.Local), ret)
	}
	if depth > 2 {
		l = append(l, do(code.Slide, depth-2))
	}
	return append(l, ret)
}

// P1: a heap whose caller has removed what the globals are.
func TestRemoved(t *testing.T) {
	for n := range int64(8) {
		m := made(t, 100, fun(called(n, text("x"))...), fun(do(code.Glob, n), do(code.Glob, 3), do(code.Op, code.Eq)), fun(do(code.Glob, n), do(code.Ref)))
		m.Heap().Collect(nil)
		for i := range 3 {
			isResult(t, m, m.Run(i, 9, 9, 9), 9, 9, 9)
		}
		m.Heap().PutText("something else altogether", nil)
		for i := range 3 {
			isResult(t, m, m.Run(i, 9, 9, 9), 9, 9, 9)
			m.Tidy()
		}
		m.Copy().Run(0, 9, 9, 9)
	}
}

// P1, P10.4: functions within one another, as many as there are steps; the stack of the program that executes them stays short.
func TestDeepCalls(t *testing.T) {
	defer debug.SetMaxStack(debug.SetMaxStack(1 << 20))
	l := row(text("kept"), arg, do(code.Int, 1), do(code.Op, code.Add), do(code.Self), do(code.Local, 2), call, do(code.Tuple, 3))
	depth := fun(arg, do(code.IsInt, 4000), do(code.False, 5), do(code.Int, 9), do(code.Jump, 13), text("kept"), do(code.Self), arg, do(code.Int, 1), do(code.Op, code.Add), call, do(code.Tuple, 2), do(code.Jump, 13))
	for _, c := range []struct {
		what  string
		quota int
		l     []code.Fun
		want  api.Errno
	}{
		{"no end", api.MaxWords, []code.Fun{fun(clos(1, 0), do(code.Int), call), fun(l...)}, api.ErrFuel},
		{"no end, in little room", 100, []code.Fun{fun(clos(1, 0), do(code.Int), call), fun(l...)}, api.ErrMem},
		{"4000 calls", 25000, []code.Fun{fun(clos(1, 0), do(code.Int), call), depth}, api.OK},
		{"tries within one another", 100, []code.Fun{fun(clos(1, 0), do(code.Int), call), fun(do(code.Try, 5), do(code.Self), do(code.Int), call, do(code.Untry))}, api.ErrFuel},
	} {
		soon(t, c.what, func() {
			m := made(t, c.quota, c.l...)
			if r := m.Run(0, api.MaxFuel, 0, 0); r.E != c.want {
				t.Errorf("%s: %d", c.what, r.E)
			}
		})
	}
}
