package infer_test

import (
	"slices"
	"strings"
	"testing"
	"time"

	"battledore/api"
	"battledore/infer"
	"battledore/parse"
	"battledore/print"
	"battledore/types"
)

// parsed: the declarations of a text.
func parsed(t *testing.T, s string) []api.Decl {
	t.Helper()
	l, at, e := parse.Cell(s)
	if e != api.OK {
		t.Fatalf("%s: %d at %d", s, e, at)
	}
	return l
}

// known: what is known after the declarations of a text.
func known(t *testing.T, s string) infer.Env {
	t.Helper()
	env, _, e := infer.Cell(infer.Base(), parsed(t, s))
	if e != api.OK {
		t.Fatalf("%s: %d", s, e)
	}
	return env
}

// spelt: the text of a scheme that is generalized over all of its variables, numbered in their order.
func spelt(t *testing.T, c api.Scheme) string {
	t.Helper()
	var all []int
	for i := range c.N {
		all = append(all, i+1)
	}
	if !slices.Equal(types.Vars(c.T), all) {
		t.Errorf("the variables of %s, of which %d are its own: %v", print.Type(c.T), c.N, types.Vars(c.T))
	}
	return print.Type(c.T)
}

// isType asks for the type of the last declaration of a text; "" if one of them has none.
func isType(t *testing.T, env infer.Env, s, want string) {
	t.Helper()
	after, l, e := infer.Cell(env, parsed(t, s))
	if want == "" {
		if e != api.ErrType {
			t.Errorf("%s: %d", s, e)
		}
		isNothing(t, s, after, l...)
		return
	}
	if e != api.OK {
		t.Errorf("%s: %d, not %s", s, e, want)
	} else if got := spelt(t, l[len(l)-1]); got != want {
		t.Errorf("%s: %s, not %s", s, got, want)
	}
}

// isNothing asks for the results beside an error.
func isNothing(t *testing.T, what string, env infer.Env, l ...api.Scheme) {
	t.Helper()
	if len(env.Types)+len(env.Arity)+len(env.Cons)+len(env.Vals)+len(l) > 0 {
		t.Errorf("%s: %v and %v beside an error", what, env, l)
	}
}

// tuple: the text of a tuple, the type of which has so many parts.
func tuple(parts int) string {
	return "(1" + strings.Repeat(",1", parts-2) + ")"
}

// soon fails if something doesn't come to its end.
func soon(t *testing.T, what string, run func()) {
	t.Helper()
	done := make(chan struct{})
	go func() {
		defer close(done) // also if it gives up
		run()
	}()
	select {
	case <-done:
	case <-time.After(time.Minute):
		t.Fatalf("%s: no end", what)
	}
}

func of(name string, kids ...api.Type) api.Type { return api.Type{Name: name, Kids: kids} }

func variable(n int) api.Type { return api.Type{Var: n} }
