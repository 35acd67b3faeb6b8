package types_test

import (
	"slices"
	"strings"
	"testing"

	"battledore/api"
	"battledore/parse"
	"battledore/print"
	"battledore/types"
)

// typ: the type of a text, where 'a to 'z are the variables 1 to 26.
func typ(t *testing.T, s string) api.Type {
	t.Helper()
	var vars []string
	for i := range 26 {
		vars = append(vars, print.Var(i+1))
	}
	l, at, e := parse.Cell("type (" + strings.Join(vars, ",") + ") t = C of " + s)
	if e != api.OK || len(l) != 1 || len(l[0].Ctors) != 1 {
		t.Fatalf("the type %s: %d at %d", s, e, at)
	}
	return l[0].Ctors[0].T
}

func of(name string, kids ...api.Type) api.Type { return api.Type{Name: name, Kids: kids} }

func variable(n int) api.Type { return api.Type{Var: n} }

// equate unifies both sides of each "a = b" of a text that are separated by ; until it can't.
func equate(t *testing.T, s *types.Subst, equations string) bool {
	t.Helper()
	for _, q := range strings.Split(equations, ";") {
		a, b, _ := strings.Cut(q, "=")
		if !s.Unify(typ(t, a), typ(t, b)) {
			return false
		}
	}
	return true
}

// copied: the same type, in memory that nothing else has.
func copied(t api.Type) api.Type {
	t.Kids = slices.Clone(t.Kids)
	for i, k := range t.Kids {
		t.Kids[i] = copied(k)
	}
	return t
}

// spoil overwrites all that a caller can get at from a type, the spare capacity included.
func spoil(t api.Type) {
	l := t.Kids[:cap(t.Kids)]
	for i := range l {
		spoil(l[i])
		l[i] = of("spoilt", of("spoilt"))
	}
}

// chain is a type nested so deeply: list of list .. of its core.
func chain(deep int, core api.Type) api.Type {
	for range deep {
		core = of("list", core)
	}
	return core
}

// spell: the text of a type, where those of its variables that are above from are a, b .., in their order.
func spell(t api.Type, from int) string {
	names := map[int]string{}
	var spelt func(t api.Type) api.Type
	spelt = func(t api.Type) api.Type {
		if t.Name == "" && t.Var <= from || t.Var == 1<<30 {
			return t
		}
		if t.Name == "" {
			if names[t.Var] == "" {
				names[t.Var] = print.Var(len(names) + 1)[1:]
			}
			return of(names[t.Var])
		}
		t = copied(t)
		for i, k := range t.Kids {
			t.Kids[i] = spelt(k)
		}
		return t
	}
	return print.Type(spelt(t))
}
