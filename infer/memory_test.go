package infer_test

import (
	"reflect"
	"slices"
	"testing"

	"battledore/api"
	"battledore/infer"
	"battledore/print"
)

// spoil overwrites all that a caller can get at from a type, the spare capacity included.
func spoil(t api.Type) {
	l := t.Kids[:cap(t.Kids)]
	for i := range l {
		spoil(l[i])
		l[i] = of("spoilt", of("spoilt"))
	}
}

// text: all that is known, as a text.
func text(env infer.Env) string {
	var s string
	for i, name := range env.Types {
		s += name + string(rune('0'+env.Arity[i])) + " "
	}
	for _, k := range env.Cons {
		s += k.Name + " of " + k.Type + ": " + print.Type(k.T) + ", "
	}
	for _, v := range env.Vals {
		s += v.Name + ": " + print.Type(v.S.T) + ", "
	}
	return s
}

// roomy: the same environment, with spare capacity; and what the spare capacity holds.
func roomy(env infer.Env) (infer.Env, func() bool) {
	out := infer.Env{
		Types: append(slices.Grow(slices.Clone(env.Types), 5), "spare"),
		Arity: append(slices.Grow(slices.Clone(env.Arity), 5), 77),
		Cons:  append(slices.Grow(slices.Clone(env.Cons), 5), infer.Con{Name: "spare"}),
		Vals:  append(slices.Grow(slices.Clone(env.Vals), 5), infer.Val{Name: "spare"}),
	}
	whole := out
	out.Types, out.Arity = out.Types[:len(env.Types)], out.Arity[:len(env.Arity)]
	out.Cons, out.Vals = out.Cons[:len(env.Cons)], out.Vals[:len(env.Vals)]
	return out, func() bool {
		return whole.Types[len(env.Types)] == "spare" && whole.Arity[len(env.Arity)] == 77 && whole.Cons[len(env.Cons)].Name == "spare" && whole.Vals[len(env.Vals)].Name == "spare"
	}
}

const someCell = "type 'a t = A | B of 'a list * (int -> 'a t) ;; let f = fun x -> B ([x], fun y -> A) ;; let g x = let r = ref x in (r, f) ;; g 1 ;; let rec h x = match x with B (l, k) -> h (k 1) | A -> []"

// The rules on memory: arguments aren't modified, nor is their spare capacity.
func TestArguments(t *testing.T) {
	env, isSpare := roomy(known(t, "let a = [] ;; type s = S of int list"))
	before := text(env)
	l := parsed(t, someCell)
	same := parsed(t, someCell)
	if _, _, e := infer.Cell(env, l); e != api.OK {
		t.Fatalf("Cell: %d", e)
	}
	for _, d := range append(l, parsed(t, "type u = U of w | V ;; let x = fun y -> let z = y in z 1 true ;; type s = T")...) {
		infer.Decl(env, d)
	}
	if !reflect.DeepEqual(l, same) || text(env) != before || !isSpare() {
		t.Errorf("an argument is modified: %s, not %s", text(env), before)
	}
}

// The rules on memory: arguments aren't retained, and results share nothing with one another, but for an environment and those it is made from.
func TestResults(t *testing.T) {
	l := parsed(t, someCell)
	env, schemes, e := infer.Cell(infer.Base(), l)
	if e != api.OK {
		t.Fatalf("Cell: %d", e)
	}
	before := text(env)
	for _, d := range l {
		for i := range d.Ctors {
			spoil(d.Ctors[i].T)
			d.Ctors[i] = api.Ctor{Name: "Spoilt", Has: true, T: of("spoilt")}
		}
	}
	for i, c := range schemes {
		spoil(c.T)
		schemes[i] = api.Scheme{T: of("spoilt")}
	}
	if text(env) != before {
		t.Errorf("an argument, or a scheme, is retained: %s", text(env))
	}
	d := parsed(t, "let f x = (x, [x])")[0]
	next, c, _ := infer.Decl(env, d)
	before = text(next)
	spoil(c.T)
	if text(next) != before {
		t.Errorf("the environment has the memory of a scheme: %s", text(next))
	}
	if _, c, _ := infer.Decl(env, d); spelt(t, c) != "'a -> 'a * 'a list" {
		t.Errorf("the next scheme has the memory of the one before: %s", print.Type(c.T))
	}
	_, c, _ = infer.Decl(next, parsed(t, "f")[0])
	spoil(c.T)
	if text(next) != before {
		t.Errorf("a scheme has the memory of the environment: %s", text(next))
	}
}

// The rules on memory: environments that are made from the same one don't overwrite each other.
func TestBranches(t *testing.T) {
	for _, env := range []infer.Env{infer.Base(), known(t, "let a = 1 ;; let b = 2 ;; let c = 3 ;; type s = S ;; type r = R")} {
		x, _, _ := infer.Cell(env, parsed(t, "let x = 1 ;; type x = X of int"))
		y, _, _ := infer.Cell(env, parsed(t, "let y = true ;; type 'a y = Y of bool"))
		isType(t, x, "(x, X 1)", "int * x")
		isType(t, y, "(y, Y true)", "bool * 'a y")
		one, _, _ := infer.Decl(x, parsed(t, "let z = 1")[0])
		two, _, _ := infer.Decl(x, parsed(t, "let z = true")[0])
		isType(t, one, "z", "int")
		isType(t, two, "z", "bool")
		isType(t, x, "z", "")
		isType(t, env, "x", "")
	}
}

// The rules on memory: Base returns new memory.
func TestBaseAnew(t *testing.T) {
	env := infer.Base()
	before := text(env)
	for i := range env.Vals {
		spoil(env.Vals[i].S.T)
		env.Vals[i] = infer.Val{Name: "spoilt"}
	}
	for i := range env.Types {
		env.Types[i], env.Arity[i] = "spoilt", 9
	}
	if again := infer.Base(); text(again) != before {
		t.Errorf("Base = %s", text(again))
	}
}

// P2: the same arguments lead to the same result, whatever is done in between.
func TestAgain(t *testing.T) {
	env := known(t, someTypes)
	for _, s := range []string{"fun x y -> let f = fun z -> (x, z, y) in (f 1, f true)", "let r = ref [] in fun x -> (r := [x]; !r)", "let f x y z = (z, y, x)", "f"} {
		for _, d := range parsed(t, s) {
			one, c, e := infer.Decl(env, d)
			infer.Cell(env, parsed(t, "let a = 1 ;; type b = D ;; a D"))
			two, c2, e2 := infer.Decl(env, d)
			if e != e2 || !reflect.DeepEqual(c, c2) || text(one) != text(two) {
				t.Errorf("%s: %v, %d, then %v, %d", s, c, e, c2, e2)
			}
		}
	}
}
