package infer_test

import (
	"reflect"
	"strings"
	"testing"

	"battledore/api"
	"battledore/infer"
	"battledore/print"
	"battledore/types"
)

// P7.1: DLet adds a Val, DExpr nothing, DType a type and its constructors.
func TestDecl(t *testing.T) {
	base := infer.Base()
	env, c, e := infer.Decl(base, parsed(t, "let f x y = x")[0])
	if e != api.OK || spelt(t, c) != "'a -> 'b -> 'a" || len(env.Vals) != len(base.Vals)+1 || len(env.Cons) != 0 || len(env.Types) != len(base.Types) {
		t.Fatalf("a let: %v, %v, %d", env, c, e)
	}
	if v := env.Vals[len(base.Vals)]; v.Name != "f" || !types.Alike(v.S, c) {
		t.Errorf("a let: %v", v)
	}
	if after, c, e := infer.Decl(env, parsed(t, "f 1")[0]); e != api.OK || spelt(t, c) != "'a -> int" || !reflect.DeepEqual(after, env) {
		t.Errorf("an expression: %v, %v, %d", after, c, e)
	}
	env, c, e = infer.Decl(env, parsed(t, "type ('b, 'a) t = A | B of 'a | C of ('b * int -> ('a, 'b) t) list | D of int")[0])
	if e != api.OK || c.N != 0 || !reflect.DeepEqual(c.T, api.Type{}) || len(env.Vals) != len(base.Vals)+1 {
		t.Fatalf("a type: %v, %v, %d", env, c, e)
	}
	if n := len(base.Types); len(env.Types) != n+1 || len(env.Arity) != n+1 || env.Types[n] != "t" || env.Arity[n] != 2 {
		t.Errorf("a type: %v, %v", env.Types, env.Arity)
	}
	var all []string
	for _, k := range env.Cons {
		s := k.Name + " of " + k.Type
		if k.N != 2 || !k.Has && !reflect.DeepEqual(k.T, api.Type{}) {
			t.Errorf("a constructor: %v", k)
		}
		if k.Has {
			s += ": " + print.Type(k.T)
		}
		all = append(all, s)
	}
	if got := strings.Join(all, ", "); got != "A of t, B of t: 'b, C of t: ('a * int -> ('b, 'a) t) list, D of t: int" {
		t.Errorf("the constructors: %s", got)
	}
	if after, _, e := infer.Decl(env, parsed(t, "let f = A")[0]); e != api.OK || len(after.Vals) != len(env.Vals)+1 || after.Vals[len(env.Vals)-1].Name != "f" {
		t.Errorf("a name that is there: %v, %d", after.Vals, e)
	}
}

// P7.1: the errors of a type declaration, the first one of those that there are.
func TestTypeErrors(t *testing.T) {
	env := known(t, "type 'a t = A | B of 'a ;; type ('a, 'b) u = U")
	for s, want := range map[string]api.Errno{
		"type v = C": api.OK, "type a = C of a": api.OK, "type 'x a = C of 'x a t": api.OK, "type a = C of int | D of string | E of bool | F of unit": api.OK, "type a = C of int list ref": api.OK,
		"type ('x, 'y) a = C of ('y, 'x) a * ('x t, int) u | D of 'x -> 'y -> a2": api.ErrType, "type ('x, 'y) a = C of ('y, 'x) a * ('x t, int) u | D of 'x -> 'y": api.OK, "type f = C | D of f ;; type g = E of f": api.OK,

		"type bool = C": api.ErrTwice, "type int = C": api.ErrTwice, "type list = C": api.ErrTwice, "type ref = C": api.ErrTwice, "type string = C": api.ErrTwice, "type unit = C": api.ErrTwice, "type 'a list = C": api.ErrTwice, "type t = C": api.ErrTwice, "type 'a t = C": api.ErrTwice, "type a = C ;; type a = D": api.ErrTwice,
		"type v = A": api.ErrTwice, "type v = C | A": api.ErrTwice, "type v = C | D of int | U of int": api.ErrTwice, "type v = C ;; type w = C": api.ErrTwice,

		"type v = C of w": api.ErrType, "type v = C of w ;; type w = D": api.ErrType, "type v = C of int * (w -> int)": api.ErrType, "type v = C of fail": api.ErrType,
		"type v = C of list": api.ErrType, "type v = C of int int": api.ErrType, "type v = C of (int, int) list": api.ErrType, "type v = C of t": api.ErrType, "type v = C of (int, int) t": api.ErrType, "type v = C of int u": api.ErrType, "type v = C of (int, int, int) u": api.ErrType, "type v = C of u": api.ErrType, "type v = C of (int * int) ref * (int, int) ref": api.ErrType,
		"type v = C of int v": api.ErrType, "type 'a v = C of v": api.ErrType, "type 'a v = C of ('a, 'a) v": api.ErrType, "type ('a, 'b) v = C of 'a v": api.ErrType, "type v = C of int -> int v": api.ErrType,

		// that the type exists comes first, then constructor by constructor, of each first that it exists
		"type t = C of w": api.ErrTwice, "type int = A": api.ErrTwice, "type v = A of w": api.ErrTwice, "type v = A | C of w": api.ErrTwice, "type v = C of w | A": api.ErrType, "type v = C | D of w | A": api.ErrType, "type v = C | A of w | D of w": api.ErrTwice,
	} {
		after, l, e := infer.Cell(env, parsed(t, s))
		if e != want {
			t.Errorf("%s: %d, not %d", s, e, want)
		}
		if e != api.OK {
			isNothing(t, s, after, l...)
		}
	}
	twice := api.Decl{Kind: api.DType, Text: "v", Ctors: []api.Ctor{{Name: "C"}, {Name: "D"}, {Name: "C"}}}
	if _, _, e := infer.Decl(env, twice); e != api.ErrTwice {
		t.Errorf("a constructor that occurs twice: %d", e)
	}
}

// P7.1: Cell returns the environment after all declarations, the scheme of each, and the first error.
func TestCell(t *testing.T) {
	env, l, e := infer.Cell(infer.Base(), parsed(t, "let x = [] ;; type 'a t = A of 'a ;; A 1 :: x ;; let f y = A (A y) ;; f x"))
	if e != api.OK || len(l) != 5 {
		t.Fatalf("%v, %d", l, e)
	}
	for i, want := range []string{"'a list", "", "int t list", "'a -> 'a t t", "'a list t t"} {
		if i == 1 && !reflect.DeepEqual(l[i], api.Scheme{}) {
			t.Errorf("the scheme of a type: %v", l[i])
		} else if i != 1 && spelt(t, l[i]) != want {
			t.Errorf("the scheme %d: %s", i, spelt(t, l[i]))
		}
	}
	var names []string
	for _, v := range env.Vals[len(infer.Prims):] {
		names = append(names, v.Name)
	}
	if strings.Join(names, " ") != "x f" || len(env.Cons) != 1 || env.Types[len(env.Types)-1] != "t" {
		t.Errorf("Cell = %v", env)
	}
	for _, none := range [][]api.Decl{nil, {}} {
		if after, l, e := infer.Cell(env, none); e != api.OK || len(l) != 0 || !reflect.DeepEqual(after, env) {
			t.Errorf("Cell of none = %v, %v, %d", after, l, e)
		}
	}
	for s, want := range map[string]api.Errno{
		"1 ;; x ;; type int = A":              api.ErrType,
		"1 ;; type int = A ;; x":              api.ErrTwice,
		"type t = A ;; type u = A ;; 1 1":     api.ErrTwice,
		"type t = A of u ;; type t = A":       api.ErrType,
		"let x = y ;; let y = 1":              api.ErrType,
		"A ;; type t = A":                     api.ErrType,
		"type t = A ;; A ;; A 1":              api.ErrType,
		"let f = fun x -> x ;; let r = ref f": api.ErrType,
	} {
		after, l, e := infer.Cell(infer.Base(), parsed(t, s))
		if e != want {
			t.Errorf("%s: %d, not %d", s, e, want)
		}
		isNothing(t, s, after, l...)
	}
}

// P7.1: Cell is Decl after Decl.
func TestCellByDecl(t *testing.T) {
	for _, s := range []string{
		"1", "let x = 1 ;; let y = x ;; (x, y)", "type t = A ;; let x = [A] ;; x ;; ref x ;; type 'a u = B of t | C of 'a ;; fun x -> [B x; C []]",
		"let id x = x ;; let id = id ;; let n = [] ;; (id 1, id n)", "let x = 1 ;; x true", "let x = 1 ;; let r = ref [] ;; type int = A", "let x = 1 ;; type int = A ;; let r = ref []",
	} {
		env, want := infer.Base(), api.OK
		var schemes []api.Scheme
		for _, d := range parsed(t, s) {
			next, c, e := infer.Decl(env, d)
			if want = e; e != api.OK {
				env, schemes = infer.Env{}, nil
				break
			}
			env, schemes = next, append(schemes, c)
		}
		got, l, e := infer.Cell(infer.Base(), parsed(t, s))
		if e != want || len(l) != len(schemes) || len(got.Vals) != len(env.Vals) || len(l) > 0 && !(reflect.DeepEqual(got, env) && reflect.DeepEqual(l, schemes)) {
			t.Errorf("%s: %v, %v, %d, not %v, %v, %d", s, got, l, e, env, schemes, want)
		}
	}
}
