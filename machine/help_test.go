package machine_test

import (
	"fmt"
	"slices"
	"strconv"
	"strings"
	"testing"
	"time"

	"battledore/api"
	"battledore/code"
	"battledore/heap"
	"battledore/machine"
)

type word = heap.Word

var num = heap.Num

// The predefined functions, by their numbers.
const (
	fail = iota
	itoa
	move
	not
	print
	ref
	size
	turn
)

// do: an instruction, without a number or with one.
func do(op byte, n ...int64) code.Ins {
	x := code.Ins{Op: op}
	if len(n) > 0 {
		x.N = n[0]
	}
	return x
}

func text(s string) code.Ins { return code.Ins{Op: code.Text, S: s} }

func raise(s string) code.Ins { return code.Ins{Op: code.Fail, S: s} }

func clos(n int64, a int) code.Ins { return code.Ins{Op: code.Clos, N: n, A: a} }

func row(l ...code.Ins) []code.Ins { return l }

// rows: one behind the other.
func rows(l ...[]code.Ins) []code.Ins { return slices.Concat(l...) }

// fun: a function without captured values; Ret is its last instruction.
func fun(l ...code.Ins) code.Fun { return code.Fun{Code: append(l, ret)} }

// called: a predefined function is called with what some instructions leave.
func called(prim int64, l ...code.Ins) []code.Ins {
	return append(append(row(do(code.Glob, prim)), l...), call)
}

var (
	call = do(code.Call)
	ret  = do(code.Ret)
	pop  = do(code.Pop)
	arg  = do(code.Local)
)

// made: a machine of these functions, with the eight predefined ones.
func made(t *testing.T, quota int, l ...code.Fun) *machine.Machine {
	t.Helper()
	m, e := machine.New(quota, 8)
	if e != api.OK || m == nil {
		t.Fatalf("New(%d): %d", quota, e)
	}
	if e := m.Add(l); e != api.OK {
		t.Fatalf("Add(%.400s): %d", fmt.Sprint(l), e)
	}
	return m
}

// show: a value as a text, as far as it is so deep.
func show(h *heap.Heap, w word, deep int) string {
	if w.IsNum() {
		return strconv.FormatInt(w.N(), 10)
	}
	if deep == 0 {
		return "..."
	}
	var l []string
	for i := range h.Len(w) {
		if p, e := h.Part(w, i); e == api.OK {
			l = append(l, show(h, p, deep-1))
		}
	}
	s := strings.Join(l, " ")
	switch h.Kind(w) {
	case heap.KTuple:
		return "(" + s + ")"
	case heap.KCon:
		return "#(" + s + ")"
	case heap.KText:
		return strconv.Quote(h.Text(w))
	case heap.KRef:
		return "{" + s + "}"
	case heap.KFun:
		return "<fun " + s + ">"
	case heap.KPrim:
		return "<prim " + s + ">"
	}
	return "?"
}

// told: what a run comes to, as a text.
func told(m *machine.Machine, r machine.Result) string {
	l := []string{"E" + strconv.Itoa(int(r.E))}
	if r.E == api.OK {
		l = append(l, show(m.Heap(), r.W, 9))
	} else if r.W != 0 {
		l = append(l, "W"+strconv.FormatUint(uint64(r.W), 10))
	}
	if r.Raise != "" {
		l = append(l, "raised "+r.Raise)
	}
	if r.Out != "" {
		l = append(l, "out "+r.Out)
	}
	for _, x := range r.Moves {
		l = append(l, map[bool]string{false: "move ", true: "turn "}[x.Turn]+strconv.FormatInt(x.N, 10))
	}
	return strings.Join(append(l, "fuel "+strconv.Itoa(r.Fuel)), "; ")
}

// same: are these the same functions?
func same(a, b []code.Fun) bool {
	return slices.EqualFunc(a, b, func(f, g code.Fun) bool { return f.Caps == g.Caps && slices.Equal(f.Code, g.Code) })
}

// state is all that a machine has.
type state struct {
	words       []word
	globs       []word
	funs        []code.Fun
	collections int
}

func stateOf(m *machine.Machine) state {
	return state{m.Heap().Words(), m.Globals(), m.Funs(), m.Heap().Collections()}
}

// mustBe: a machine must have all this.
func mustBe(t *testing.T, what string, m *machine.Machine, want state) {
	t.Helper()
	got := stateOf(m)
	if !slices.Equal(got.words, want.words) || !slices.Equal(got.globs, want.globs) || !same(got.funs, want.funs) || got.collections != want.collections {
		t.Errorf("%s: %v, not %v", what, got, want)
	}
}

// soon: it must come to an end.
func soon(t *testing.T, what string, run func()) {
	t.Helper()
	done := make(chan struct{})
	go func() {
		defer close(done) // also if it gives up
		run()
	}()
	select {
	case <-done:
	case <-time.After(time.Minute):
		t.Fatalf("%s: no end", what)
	}
}
