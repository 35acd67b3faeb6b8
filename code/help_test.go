package code_test

import (
	"strconv"
	"strings"
	"testing"
	"time"

	"battledore/api"
	"battledore/code"
	"battledore/infer"
	"battledore/parse"
)

// value is a number (int64), a text (string), or one of the objects below.
type value any

type tuple struct{ parts []value }

type con struct {
	n int64
	v value
}

type cell struct{ v value }

type prim int

// spelt: a value as text, as far as functions have one.
func spelt(v value) string {
	switch x := v.(type) {
	case int64:
		return strconv.FormatInt(x, 10)
	case string:
		return strconv.Quote(x)
	case *tuple:
		var l []string
		for _, p := range x.parts {
			l = append(l, spelt(p))
		}
		return "(" + strings.Join(l, ", ") + ")"
	case *con:
		return "#" + strconv.FormatInt(x.n, 10) + " " + spelt(x.v)
	case *cell:
		return "{" + spelt(x.v) + "}"
	}
	return "<fun>"
}

// raised and spent are thrown: an exception, and that no step is left.
type raised string

type spent struct{}

// effects is what the world sees of an execution, whoever executes.
type effects struct {
	out   strings.Builder
	fuel  int
	words int // the words of all objects that were made
}

func (e *effects) step() {
	if e.fuel == 0 {
		panic(spent{})
	}
	e.fuel--
}

// short: a number of 63 bits.
func short(n int64) int64 { return n << 1 >> 1 }

func truth(b bool) int64 {
	if b {
		return 1
	}
	return 0
}

// call: what a predefined function answers.
func (e *effects) call(p prim, v value) value {
	switch infer.Prims[p] {
	case "fail":
		panic(raised(v.(string)))
	case "itoa":
		return e.text(strconv.FormatInt(v.(int64), 10))
	case "move", "turn":
		e.out.WriteString(infer.Prims[p] + spelt(v))
	case "not":
		return 1 - v.(int64)
	case "print":
		e.out.WriteString(v.(string))
	case "ref":
		e.words += 2
		return &cell{v}
	case "size":
		return int64(len(v.(string)))
	}
	return int64(0)
}

// text counts the words of a text.
func (e *effects) text(s string) string {
	e.words += 1 + (len(s)+7)/8
	return s
}

// operator: what one makes of two.
func (e *effects) operator(n int64, a, b value) value {
	switch n {
	case code.Eq:
		return truth(e.same(a, b))
	case code.Ne:
		return 1 - truth(e.same(a, b))
	case code.Cat:
		return e.text(a.(string) + b.(string))
	case code.Set:
		a.(*cell).v = b
		return int64(0)
	}
	x, y := a.(int64), b.(int64)
	if (n == code.Div || n == code.Mod) && y == 0 {
		panic(raised("div"))
	}
	switch n {
	case code.Add:
		return short(x + y)
	case code.Sub:
		return short(x - y)
	case code.Mul:
		return short(x * y)
	case code.Div:
		return short(x / y)
	case code.Mod:
		return x % y
	case code.Lt:
		return truth(x < y)
	}
	return truth(x <= y)
}

// same: are two values equal? Each pair is a step.
func (e *effects) same(a, b value) bool {
	e.step()
	switch x := a.(type) {
	case int64, string:
		return a == b
	case *cell:
		return a == b
	case *tuple:
		y, ok := b.(*tuple)
		if !ok {
			return false
		}
		for i, p := range x.parts {
			if !e.same(p, y.parts[i]) {
				return false
			}
		}
		return true
	case *con:
		y, ok := b.(*con)
		return ok && e.same(x.n, y.n) && e.same(x.v, y.v)
	}
	if _, ok := b.(int64); ok {
		return false
	}
	panic(raised("equal"))
}

// executed: what an execution comes to, as text.
func executed(fuel int, run func(e *effects) value) (s string, e *effects) {
	e = &effects{fuel: fuel}
	defer func() {
		end := ""
		switch x := recover().(type) {
		case nil:
		case raised:
			end = "raised " + string(x)
		case spent:
			end = "spent"
		default:
			panic(x)
		}
		s += end + "; " + e.out.String() + "; " + strconv.Itoa(e.fuel)
	}()
	s = spelt(run(e))
	return
}

// parsed: the declarations of a text.
func parsed(t *testing.T, s string) []api.Decl {
	t.Helper()
	l, at, e := parse.Cell(s)
	if e != api.OK {
		t.Fatalf("%s: %d at %d", s, e, at)
	}
	return l
}

// known: what is known after the declarations of a text.
func known(t *testing.T, s string) infer.Env {
	t.Helper()
	env, _, e := infer.Cell(infer.Base(), parsed(t, s))
	if e != api.OK {
		t.Fatalf("%s: %d", s, e)
	}
	return env
}

// namesOf: the names of an environment.
func namesOf(env infer.Env) code.Names {
	var n code.Names
	for _, v := range env.Vals {
		n.Globs = append(n.Globs, v.Name)
	}
	for _, k := range env.Cons {
		n.Cons = append(n.Cons, k.Name)
	}
	return n
}

// soon fails if something doesn't come to its end.
func soon(t *testing.T, what string, run func()) {
	t.Helper()
	done := make(chan struct{})
	go func() {
		defer close(done) // also if it gives up
		run()
	}()
	select {
	case <-done:
	case <-time.After(time.Minute):
		t.Fatalf("%s: no end", what)
	}
}
