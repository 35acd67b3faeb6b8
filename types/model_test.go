package types_test

import (
	"math/rand"
	"testing"

	"battledore/api"
	"battledore/print"
	"battledore/types"
)

// model is a substitution as it is taught: of each variable what it stands for, in which none of them occurs.
type model map[int]api.Type

func (m model) apply(t api.Type) api.Type {
	if x, ok := m[t.Var]; ok && t.Name == "" {
		return x
	}
	out := api.Type{Name: t.Name, Var: t.Var}
	for _, k := range t.Kids {
		out.Kids = append(out.Kids, m.apply(k))
	}
	return out
}

func occurs(v int, t api.Type) bool {
	if t.Name == "" {
		return t.Var == v
	}
	for _, k := range t.Kids {
		if occurs(v, k) {
			return true
		}
	}
	return false
}

func (m model) bind(v int, t api.Type) bool {
	if occurs(v, t) {
		return false
	}
	one := model{v: t}
	for w, x := range m {
		m[w] = one.apply(x)
	}
	m[v] = t
	return true
}

func (m model) unify(a, b api.Type) bool {
	a, b = m.apply(a), m.apply(b)
	switch {
	case a.Name == "" && b.Name == "" && a.Var == b.Var:
		return true
	case b.Name == "":
		return m.bind(b.Var, a)
	case a.Name == "":
		return m.bind(a.Var, b)
	case a.Name != b.Name || len(a.Kids) != len(b.Kids):
		return false
	}
	for i := range a.Kids {
		if !m.unify(a.Kids[i], b.Kids[i]) {
			return false
		}
	}
	return true
}

func parts(t api.Type) int {
	n := 1
	for _, k := range t.Kids {
		n += parts(k)
	}
	return n
}

func random(rnd *rand.Rand, deep, vars int) api.Type {
	if rnd.Intn(2) == 0 {
		return variable(1 + rnd.Intn(vars))
	}
	names := []string{"int", "bool", "list", "ref", "->", "*", "*"}
	arities := []int{0, 0, 1, 1, 2, 2, 3}
	if deep <= 0 {
		names = names[:2]
	}
	i := rnd.Intn(len(names))
	t := of(names[i])
	for range arities[i] {
		t.Kids = append(t.Kids, random(rnd, deep-1, vars))
	}
	return t
}

// P6.1: random equations have a solution where the model finds one; it is the same, but for the names of variables, as the most general one is.
func TestLikeModel(t *testing.T) {
	rnd := rand.New(rand.NewSource(6))
	yes, no, far := 0, 0, 0
	for range 20000 {
		vars := 1 + rnd.Intn(9)
		all := of("*")
		for v := range vars {
			all.Kids = append(all.Kids, variable(v+1))
		}
		s, m := types.New(vars), model{}
		for range 1 + rnd.Intn(6) {
			a, b := random(rnd, 1+rnd.Intn(3), vars), random(rnd, 1+rnd.Intn(3), vars)
			got, want := s.Unify(a, b), m.unify(a, b)
			if got != want {
				t.Fatalf("%s = %s: %v", print.Type(a), print.Type(b), got)
			}
			if !got {
				no++
				break
			}
			yes++
			if !types.Same(s.Apply(a), s.Apply(b)) {
				t.Fatalf("%s = %s: they are %s and %s", print.Type(a), print.Type(b), print.Type(s.Apply(a)), print.Type(s.Apply(b)))
			}
			x, y := s.Apply(all), m.apply(all)
			if !types.Alike(types.Close(x, nil), types.Close(y, nil)) {
				t.Fatalf("%s = %s: all are %s, not %s", print.Type(a), print.Type(b), print.Type(x), print.Type(y))
			}
			if !types.Same(s.Apply(x), x) {
				t.Fatalf("%s = %s: %s is not the end of it", print.Type(a), print.Type(b), print.Type(x))
			}
			n := parts(y)
			if n > 20 {
				far++
			}
			for _, most := range []int{n - 1, n, n + 1, 2 * n} {
				if got := s.Size(all, most); n < most && got != n || n >= most && got < most {
					t.Fatalf("Size(%s, %d) = %d, not %d", print.Type(x), most, got, n)
				}
				if got := types.Size(x, most); n < most && got != n || n >= most && got < most {
					t.Fatalf("Size(%s, %d) = %d, not %d", print.Type(x), most, got, n)
				}
			}
		}
	}
	if yes < 10000 || no < 5000 || far < 50 {
		t.Errorf("only %d had a solution, %d of them a great one, %d had none", yes, far, no)
	}
}
