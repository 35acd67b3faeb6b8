// Package infer is layer 7, type inference: see shared/doc/07-infer.md.
package infer

import (
	"slices"

	"battledore/api"
)

// Great is how many parts a type of something that is bound, matched or handed over has at most.
const Great = 100

// Prims are the names that are predefined, in the order of their numbers.
var Prims = [8]string{"fail", "itoa", "move", "not", "print", "ref", "size", "turn"}

// Con is a constructor that is known: of which type, with how many variables, and of what, if Has.
type Con struct {
	Name string
	Type string
	N    int
	Has  bool
	T    api.Type
}

// Val is a name that is known, and its scheme.
type Val struct {
	Name string
	S    api.Scheme
}

// Env is what is known: the types and how many variables each has, the constructors, the names, the last of one name counting.
type Env struct {
	Types []string
	Arity []int
	Cons  []Con
	Vals  []Val
}

// Base: what is predefined.
func Base() Env {
	env := Env{
		Types: []string{"bool", "int", "list", "ref", "string", "unit"},
		Arity: []int{0, 0, 1, 1, 0, 0},
	}
	for i, s := range primSchemes() {
		env.Vals = append(env.Vals, Val{Prims[i], s})
	}
	return env
}

func primSchemes() [len(Prims)]api.Scheme {
	a := api.Type{Var: 1}
	return [...]api.Scheme{
		{N: 1, T: arrow(named("string"), a)},
		{T: arrow(named("int"), named("string"))},
		{T: arrow(named("int"), named("unit"))},
		{T: arrow(named("bool"), named("bool"))},
		{T: arrow(named("string"), named("unit"))},
		{N: 1, T: arrow(a, named("ref", a))},
		{T: arrow(named("string"), named("int"))},
		{T: arrow(named("int"), named("unit"))},
	}
}

// Decl: what is known after a declaration, and the scheme of what it is (of a type none).
func Decl(env Env, d api.Decl) (Env, api.Scheme, api.Errno) {
	return after(clipped(env), d)
}

// Cell: what is known after all declarations, and the scheme of each; the first error.
func Cell(env Env, l []api.Decl) (Env, []api.Scheme, api.Errno) {
	env = clipped(env)
	var schemes []api.Scheme
	for _, d := range l {
		next, s, e := after(env, d)
		if e != api.OK {
			return Env{}, nil, e
		}
		env, schemes = next, append(schemes, s)
	}
	return env, schemes, api.OK
}

// clipped: the same environment; what is appended to it is in new memory.
func clipped(env Env) Env {
	return Env{slices.Clip(env.Types), slices.Clip(env.Arity), slices.Clip(env.Cons), slices.Clip(env.Vals)}
}

// after: what Decl returns; the lists may be appended to. What is wrong is thrown from wherever it is found.
func after(env Env, d api.Decl) (next Env, s api.Scheme, e api.Errno) {
	defer func() {
		r := recover()
		if r == nil {
			return
		}
		thrown, ok := r.(api.Errno)
		if !ok {
			panic(r) // no declaration leads here: only a mistake of the package's own would
		}
		next, s, e = Env{}, api.Scheme{}, thrown
	}()
	switch d.Kind {
	case api.DExpr:
		return env, ofDecl(env, d), api.OK
	case api.DLet:
		s = ofDecl(env, d)
		env.Vals = append(env.Vals, Val{d.Text, copied(s)})
		return env, s, api.OK
	case api.DType:
		return withType(env, d), api.Scheme{}, api.OK
	}
	return Env{}, api.Scheme{}, api.ErrType
}
