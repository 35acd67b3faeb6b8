// Package infer is layer 7: see shared/doc/07-infer.md.
package infer

import (
	"battledore/api"
)

// Con is a constructor that is known: of which type, with how many variables, and of what, if Has.
type Con struct {
	Name string
	Type string
	N    int
	Has  bool
	T    api.Type
}

// Val is a name that is known, and its scheme.
type Val struct {
	Name string
	S    api.Scheme
}

// Env is what is known: the types and how many variables each has, the constructors, the names, the last of one name counting.
type Env struct {
	Types []string
	Arity []int
	Cons  []Con
	Vals  []Val
}

// Base: what is given.
func Base() (r0 Env) { return }

// Decl: what is known behind a declaration, and the scheme of what it is (of a type none).
func Decl(env Env, d api.Decl) (r0 Env, r1 api.Scheme, r2 api.Errno) { return }

// Cell: what is known behind all declarations, and the scheme of each; the first error.
func Cell(env Env, l []api.Decl) (r0 Env, r1 []api.Scheme, r2 api.Errno) { return }

// Great is how many parts a type of something that is bound, matched or handed over has at most.
const Great = 100

// Prims are the names that are given, in the order of their numbers.
var Prims = [8]string{"fail", "itoa", "move", "not", "print", "ref", "size", "turn"}
