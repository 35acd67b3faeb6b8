package infer

import (
	"slices"

	"battledore/api"
	"battledore/types"
)

func named(name string, kids ...api.Type) api.Type {
	return api.Type{Name: name, Kids: kids}
}

func arrow(a, b api.Type) api.Type {
	return named("->", a, b)
}

// variables: 1 to n. No cell declares more than it has bytes.
func variables(n int) []api.Type {
	if n > api.MaxSource {
		panic(api.ErrType)
	}
	var l []api.Type
	for i := range n {
		l = append(l, api.Type{Var: i + 1})
	}
	return l
}

// some: l, which has n items wherever a cell leads to it.
func some[T any](l []T, n int) []T {
	if len(l) != n {
		panic(api.ErrType)
	}
	return l
}

// each: the type of each of l.
func each[T any](l []T, infer func(T) api.Type) []api.Type {
	var out []api.Type
	for _, x := range l {
		out = append(out, infer(x))
	}
	return out
}

// copied: the same scheme, in memory of its own.
func copied(s api.Scheme) api.Scheme {
	return api.Scheme{N: s.N, T: types.New(0).Apply(s.T)}
}

// withType: the environment with one more type; the lists may be appended to.
func withType(env Env, d api.Decl) Env {
	if slices.Contains(env.Types, d.Text) {
		panic(api.ErrTwice)
	}
	env.Types = append(env.Types, d.Text)
	env.Arity = append(env.Arity, d.N)
	for _, k := range d.Ctors {
		if slices.ContainsFunc(env.Cons, func(other Con) bool { return other.Name == k.Name }) {
			panic(api.ErrTwice)
		}
		made := Con{Name: k.Name, Type: d.Text, N: d.N, Has: k.Has}
		if k.Has {
			if types.Size(k.T, Great+1) > Great || !isKnown(env, k.T, d.N) {
				panic(api.ErrType)
			}
			made.T = types.New(0).Apply(k.T)
		}
		env.Cons = append(env.Cons, made)
	}
	return env
}

// isKnown: is each name in a type there, and has it as many kids as it must have? The type's variables are 1 to n.
func isKnown(env Env, t api.Type, n int) bool {
	switch t.Name {
	case "":
		return 1 <= t.Var && t.Var <= n
	case "->":
		if len(t.Kids) != 2 {
			return false
		}
	case "*":
		if len(t.Kids) < 2 {
			return false
		}
	default:
		i := slices.Index(env.Types, t.Name)
		if i < 0 || i >= len(env.Arity) || env.Arity[i] != len(t.Kids) {
			return false
		}
	}
	return !slices.ContainsFunc(t.Kids, func(k api.Type) bool { return !isKnown(env, k, n) })
}
