package image_test

import (
	"reflect"
	"slices"
	"strconv"
	"testing"
	"time"

	"battledore/api"
	"battledore/code"
	"battledore/heap"
	"battledore/image"
	"battledore/infer"
	"battledore/machine"
	"battledore/parse"
)

// made: a new world.
func made(t *testing.T, quota int) image.World {
	t.Helper()
	x, e := image.New(quota)
	if e != api.OK || x.M == nil {
		t.Fatalf("New(%d): %d", quota, e)
	}
	return x
}

// loaded: the world of some bytes, which must be there.
func loaded(t *testing.T, p []byte) image.World {
	t.Helper()
	x, e := image.Load(p)
	if e != api.OK || x.M == nil {
		t.Fatalf("Load of %d bytes: %d", len(p), e)
	}
	return x
}

func namesOf(env infer.Env) code.Names {
	var n code.Names
	for _, v := range env.Vals {
		n.Globs = append(n.Globs, v.Name)
	}
	for _, k := range env.Cons {
		n.Cons = append(n.Cons, k.Name)
	}
	return n
}

// cell: the world after the declarations of a cell, and what they came to as a text. With an error the world is as it was.
func cell(t *testing.T, x image.World, s string) (image.World, string) {
	t.Helper()
	l, at, e := parse.Cell(s)
	if e != api.OK {
		t.Fatalf("%s: %d at %d", s, e, at)
	}
	next := image.World{Env: x.Env, M: x.M.Copy()}
	told := ""
	for _, d := range l {
		env, _, e := infer.Decl(next.Env, d)
		if e != api.OK {
			return x, told + "E" + strconv.Itoa(int(e))
		}
		if d.Kind != api.DType {
			w, came := one(t, next, d)
			told += came + "; "
			if came[0] == 'E' {
				return x, told
			}
			if d.Kind == api.DLet && next.M.Bind(w) != api.OK {
				t.Fatalf("%s: Bind", s)
			}
		}
		next.Env = env
	}
	return next, told
}

// one: a declaration's value, and what its execution came to.
func one(t *testing.T, x image.World, d api.Decl) (heap.Word, string) {
	t.Helper()
	self := ""
	if d.Rec {
		self = d.Text
	}
	funs, e := code.Compile(namesOf(x.Env), self, d.E, len(x.M.Funs()))
	if e != api.OK {
		t.Fatalf("Compile: %d", e)
	}
	if e := x.M.Add(funs); e != api.OK {
		return 0, "E" + strconv.Itoa(int(e))
	}
	r := x.M.Run(len(x.M.Funs())-1, 1000, 9, 99)
	told := " " + r.Raise + " " + r.Out + " " + strconv.Itoa(len(r.Moves)) + " " + strconv.Itoa(r.Fuel)
	if r.E != api.OK {
		return 0, "E" + strconv.Itoa(int(r.E)) + told
	}
	return r.W, show(x.M.Heap(), r.W, 9) + told
}

// show: a value as a text.
func show(h *heap.Heap, w heap.Word, deep int) string {
	switch {
	case w.IsNum():
		return strconv.FormatInt(w.N(), 10)
	case h.Kind(w) == heap.KText:
		return strconv.Quote(h.Text(w))
	case deep == 0:
		return "..."
	}
	s := strconv.Itoa(int(h.Kind(w))) + "("
	for i := range h.Len(w) {
		p, _ := h.Part(w, i)
		s += show(h, p, deep-1) + " "
	}
	return s + ")"
}

// cells: a world after some cells.
func cells(t *testing.T, x image.World, l ...string) image.World {
	t.Helper()
	for _, s := range l {
		x, _ = cell(t, x, s)
	}
	return x
}

// state is all that a world has.
type state struct {
	env         infer.Env
	words       []heap.Word
	globs       []heap.Word
	funs        []code.Fun
	quota       int
	collections int
}

func stateOf(x image.World) state {
	return state{x.Env, x.M.Heap().Words(), x.M.Globals(), x.M.Funs(), x.M.Heap().Quota(), x.M.Heap().Collections()}
}

// sameFuns: are these the same functions?
func sameFuns(a, b []code.Fun) bool {
	return slices.EqualFunc(a, b, func(f, g code.Fun) bool { return f.Caps == g.Caps && slices.Equal(f.Code, g.Code) })
}

// mustBe: a world must have this, but for its number of collections.
func mustBe(t *testing.T, what string, x image.World, want state) {
	t.Helper()
	got := stateOf(x)
	if !slices.Equal(got.words, want.words) || !slices.Equal(got.globs, want.globs) || !sameFuns(got.funs, want.funs) || got.quota != want.quota {
		t.Errorf("%s: another machine", what)
	}
	if !reflect.DeepEqual(got.env, want.env) {
		t.Errorf("%s: %v, not %v", what, got.env, want.env)
	}
}

// tidy: a world of which nothing is left but what its globals reach.
func tidy(x image.World) image.World {
	m := x.M.Copy()
	m.Tidy()
	return image.World{Env: x.Env, M: m}
}

// soon: it must come to an end.
func soon(t *testing.T, what string, run func()) {
	t.Helper()
	done := make(chan struct{})
	go func() {
		defer close(done) // also if it gives up
		run()
	}()
	select {
	case <-done:
	case <-time.After(time.Minute):
		t.Fatalf("%s: no end", what)
	}
}

// restored: a machine of functions and globals, in a heap of their own.
func restored(t *testing.T, funs []code.Fun, globs []heap.Word) *machine.Machine {
	t.Helper()
	h, _ := heap.New(100)
	m, e := machine.Restore(h, funs, globs)
	if e != api.OK {
		t.Fatalf("Restore: %d", e)
	}
	return m
}
