package code_test

import (
	"math"
	"reflect"
	"runtime/debug"
	"slices"
	"testing"

	"battledore/api"
	"battledore/code"
	"battledore/octet"
)

// isResult asks for functions, or an error and none.
func isResult(t *testing.T, l []code.Fun, e api.Errno) {
	t.Helper()
	if (e == api.OK) != (len(l) > 0) || e != api.OK && e != api.ErrNone {
		t.Fatalf("%d functions, %d", len(l), e)
	}
	for _, f := range l {
		if len(f.Code) == 0 {
			t.Fatalf("no instructions")
		}
	}
}

// P1: an expression of any kind, with any number of parts.
func TestAnyKind(t *testing.T) {
	n := namesOf(known(t, someTypes))
	leaves := []api.Expr{{Kind: api.EInt}, {Kind: api.EVar, Text: "ref"}, {Kind: api.ENil}, {}, {Kind: api.EFun}}
	pats := []api.Pat{{Kind: api.PAny}, {Kind: api.PVar}, {}, {Kind: api.PCon, Text: "B"}, {Kind: api.PCons, Kids: []api.Pat{{}}}}
	for kind := range 256 {
		for kids := range 5 {
			for m := range 4 {
				for i, leaf := range leaves {
					x := api.Expr{Kind: byte(kind), Text: []string{"", "+", "B", "x", "="}[i], Rec: m == 1}
					for range kids {
						x.Kids = append(x.Kids, leaf)
					}
					for range m {
						x.Pats = append(x.Pats, pats[i])
					}
					for _, self := range []string{"", "x"} {
						l, e := code.Compile(n, self, x, i)
						isResult(t, l, e)
						l, e = code.Compile(n, self, api.Expr{Kind: api.ELet, Rec: m == 1, Text: "x", Kids: []api.Expr{x, x}}, i)
						isResult(t, l, e)
					}
				}
			}
		}
	}
}

// P1: a pattern of any kind, with any number of parts.
func TestAnyPattern(t *testing.T) {
	n := namesOf(known(t, someTypes))
	for kind := range 256 {
		for kids := range 4 {
			for _, kid := range []api.Pat{{}, {Kind: api.PAny}, {Kind: api.PVar, Text: "x"}} {
				for _, name := range []string{"", "A", "B"} {
					p := api.Pat{Kind: byte(kind), Text: name}
					for range kids {
						p.Kids = append(p.Kids, kid)
					}
					l, e := code.Compile(n, "", api.Expr{Kind: api.EMatch, Kids: []api.Expr{{Kind: api.ENil}, {Kind: api.EInt}}, Pats: []api.Pat{p}}, 0)
					isResult(t, l, e)
				}
			}
		}
	}
}

// P1: what is no expression has no functions.
func TestWrongForm(t *testing.T) {
	one := api.Expr{Kind: api.EInt}
	for _, x := range []api.Expr{
		{}, {Kind: 20}, {Kind: 255},
		made(api.ECons, "", one), made(api.EFun, "x"), made(api.EFun, "x", one, one), made(api.EApp, ""), made(api.EApp, "", one), made(api.ELet, "x", one), made(api.EIf, "", one, one), made(api.EMatch, ""), made(api.EMatch, "", one, one),
		{Kind: api.EMatch, Kids: []api.Expr{one}, Pats: []api.Pat{{Kind: api.PAny}}}, {Kind: api.EMatch, Kids: []api.Expr{one, one}, Pats: []api.Pat{{}}}, {Kind: api.EMatch, Kids: []api.Expr{one, one}, Pats: []api.Pat{{Kind: 11}}},
		made(api.ETry, "x", one), made(api.ESeq, "", one), made(api.EOp, "+", one), made(api.EOp, "++", one, one), made(api.EOp, "", one, one), made(api.EOp, "::", one, one), made(api.ENeg, ""), made(api.ENeg, "", one, one), made(api.EGet, ""), made(api.ETuple, ""), made(api.ETuple, "", one), {Kind: api.ETuple, Kids: make([]api.Expr, 1001)},
	} {
		for _, self := range []string{"", "x"} {
			if l, e := code.Compile(code.Names{}, self, x, 0); e != api.ErrNone || len(l) != 0 {
				t.Errorf("%v: %d functions, %d", x, len(l), e)
			}
		}
	}
	if all := compiled(t, code.Names{}, "", api.Expr{Kind: api.EMatch, Kids: []api.Expr{one}}, 0); len(all) != 1 {
		t.Errorf("a match without arms: %v", all)
	}
	for _, first := range []int{-1, math.MaxInt, math.MinInt} {
		l, e := code.Compile(code.Names{}, "", made(api.EFun, "x", made(api.EFun, "y", one)), first)
		isResult(t, l, e)
	}
}

// P1: what is nested more deeply than calls may be.
func TestDeep(t *testing.T) {
	defer debug.SetMaxStack(debug.SetMaxStack(64 << 20))
	const n = 100000
	names := namesOf(known(t, someTypes))
	for kind := range byte(24) {
		for kids := 1; kids <= 3; kids++ {
			for at := range kids {
				x := api.Expr{Kind: api.ENil}
				for range n {
					y := api.Expr{Kind: kind, Text: "B", Kids: make([]api.Expr, kids), Pats: make([]api.Pat, kids-1)}
					for i := range y.Kids {
						y.Kids[i].Kind = api.ENil
					}
					for i := range y.Pats {
						y.Pats[i].Kind = api.PAny
					}
					y.Kids[at] = x
					x = y
				}
				l, e := code.Compile(names, "x", x, 0)
				isResult(t, l, e)
				if kind == api.ENeg && kids == 1 && e != api.ErrNone {
					t.Errorf("ENeg within ENeg: %d", e)
				}
			}
		}
	}
	for kind := range byte(12) {
		for kids := 1; kids <= 3; kids++ {
			p := api.Pat{Kind: api.PNil}
			for range n {
				q := api.Pat{Kind: kind, Text: "B", Kids: make([]api.Pat, kids)}
				q.Kids[kids-1] = p
				p = q
			}
			l, e := code.Compile(names, "", api.Expr{Kind: api.EMatch, Kids: []api.Expr{{Kind: api.ENil}, {Kind: api.EInt}}, Pats: []api.Pat{p}}, 0)
			isResult(t, l, e)
		}
	}
}

// P1: as many functions within one another, and as many names, as there can be.
func TestDeepFunctions(t *testing.T) {
	x := made(api.EVar, "size")
	for range 500 {
		x = made(api.EApp, "", x, made(api.EVar, "a1"))
	}
	for i := range 1400 {
		x = made(api.EFun, []string{"a1", "b", "c", "d", "size1"}[i%5], x)
	}
	soon(t, "1400 functions", func() { compiled(t, namesOf(known(t, "")), "f", x, 0) })
	x = made(api.EUnit, "")
	all := list(650)
	for _, s := range all {
		x = made(api.ESeq, "", made(api.EVar, s), x)
	}
	for _, s := range all {
		x = made(api.EFun, s, x)
	}
	soon(t, "650 functions", func() { compiled(t, code.Names{}, "", x, 0) })
}

const someCell = "let rec f x = match x with (a, B b) :: Node (l, c, Leaf) :: r -> (fun y -> try f [y; (a, b)] with e -> [(e ^ \"x\", c)]) | [] -> let g = fun z -> (z, x, f) in g 1 | _ -> fail \"none\""

// The rules on memory: arguments aren't modified, nor is their spare capacity; nor are they kept.
func TestArguments(t *testing.T) {
	n := namesOf(known(t, someTypes))
	n.Globs, n.Cons = append(slices.Clone(n.Globs), "spare"), append(slices.Clone(n.Cons), "spare")
	whole := code.Names{Globs: slices.Clone(n.Globs), Cons: slices.Clone(n.Cons)}
	less := code.Names{Globs: n.Globs[:len(n.Globs)-1], Cons: n.Cons[:len(n.Cons)-1]}
	d, again := parsed(t, someCell)[0], parsed(t, someCell)[0]
	l, e := code.Compile(less, "f", d.E, 5)
	if e != api.OK || !reflect.DeepEqual(d, again) || !reflect.DeepEqual(n, whole) {
		t.Fatalf("%d: other arguments", e)
	}
	all := append(before(5), l...)
	kept := slices.Clone(encoded(all))
	for i := range n.Globs {
		n.Globs[i] = "spoilt"
	}
	spoil(d.E)
	if code.Check(all, 8); !slices.Equal(encoded(all), kept) {
		t.Error("arguments are kept, or Check modifies")
	}
	l2, _ := code.Compile(less, "f", again.E, 5)
	if len(l2) != 0 {
		t.Error("names that were modified are known")
	}
	w := &octet.Writer{}
	code.Encode(w, all)
	all[5].Code[0] = code.Ins{Op: 200}
	if !slices.Equal(w.Done(), kept) {
		t.Error("what was encoded is kept")
	}
}

// spoil overwrites an expression.
func spoil(x api.Expr) {
	for i := range x.Kids {
		spoil(x.Kids[i])
		x.Kids[i] = api.Expr{Text: "spoilt"}
	}
	for i := range x.Pats {
		x.Pats[i] = api.Pat{Text: "spoilt"}
	}
}

// spoilAll overwrites all that a caller can get at from functions, the spare capacity included; each must be what it was till then.
func spoilAll(t *testing.T, l []code.Fun, p []byte) {
	t.Helper()
	for i := range l {
		if !slices.Equal(encoded(l[i:i+1]), encoded(decoded(p)[i:i+1])) {
			t.Errorf("the function %d shares memory with another one", i)
		}
		more := l[i].Code[:cap(l[i].Code)]
		for j := range more {
			more[j] = code.Ins{Op: 99, S: "spoilt"}
		}
	}
	more := l[:cap(l)]
	for i := range more {
		more[i] = code.Fun{Caps: 99}
	}
}

func decoded(p []byte) []code.Fun { return code.Decode(octet.NewReader(p)) }

// The rules on memory, P2: results are new, and the same again.
func TestResultsAreNew(t *testing.T) {
	n := namesOf(known(t, someTypes))
	x := parsed(t, someCell)[0].E
	l, _ := code.Compile(n, "f", x, 0)
	p := encoded(l)
	for range 3 {
		again, e := code.Compile(n, "f", x, 0)
		if e != api.OK || !slices.Equal(encoded(again), p) {
			t.Fatal("not the same again")
		}
		spoilAll(t, again, p)
		r := octet.NewReader(p)
		got := code.Decode(r)
		if !slices.Equal(encoded(got), p) {
			t.Fatal("not the same, decoded again")
		}
		spoilAll(t, got, p)
	}
	if !slices.Equal(encoded(l), p) {
		t.Error("a later result shares memory with an earlier one")
	}
}
