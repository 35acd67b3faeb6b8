package infer_test

import (
	"math"
	"runtime/debug"
	"strings"
	"testing"

	"battledore/api"
	"battledore/infer"
)

// P1: an expression of any kind, with any number of parts.
func TestAnyKind(t *testing.T) {
	env := known(t, someTypes)
	leaves := []api.Expr{{Kind: api.EInt}, {Kind: api.EVar, Text: "ref"}, {Kind: api.ENil}, {}, {Kind: api.EFun}}
	pats := []api.Pat{{Kind: api.PAny}, {Kind: api.PVar}, {}, {Kind: api.PCon, Text: "B"}, {Kind: api.PCons, Kids: []api.Pat{{}}}}
	for kind := range 256 {
		for n := range 5 {
			for m := range 4 {
				for i, leaf := range leaves {
					x := api.Expr{Kind: byte(kind), Text: []string{"", "+", "B", "x", "="}[i]}
					for range n {
						x.Kids = append(x.Kids, leaf)
					}
					for range m {
						x.Pats = append(x.Pats, pats[i])
					}
					d := api.Decl{Kind: byte(1 + i%2), Rec: m == 1, E: x}
					infer.Decl(env, d)
					d.E = api.Expr{Kind: api.ELet, Rec: m == 1, Text: "x", Kids: []api.Expr{x, x}}
					infer.Decl(env, d)
				}
			}
		}
	}
}

// P1: a pattern of any kind, with any number of parts.
func TestAnyPattern(t *testing.T) {
	env := known(t, someTypes)
	for kind := range 256 {
		for n := range 4 {
			for _, kid := range []api.Pat{{}, {Kind: api.PAny}, {Kind: api.PVar, Text: "x"}} {
				for _, name := range []string{"", "A", "B"} {
					p := api.Pat{Kind: byte(kind), Text: name}
					for range n {
						p.Kids = append(p.Kids, kid)
					}
					x := api.Expr{Kind: api.EMatch, Kids: []api.Expr{{Kind: api.ENil}, {Kind: api.EInt}}, Pats: []api.Pat{p}}
					infer.Decl(env, api.Decl{Kind: api.DExpr, E: x})
				}
			}
		}
	}
}

// P1: what isn't of the form has no type.
func TestWrongForm(t *testing.T) {
	one := api.Expr{Kind: api.EInt}
	for _, x := range []api.Expr{
		{}, {Kind: 20}, {Kind: 255},
		{Kind: api.ECons}, {Kind: api.ECons, Kids: []api.Expr{one}}, {Kind: api.EFun}, {Kind: api.EApp}, {Kind: api.EApp, Kids: []api.Expr{one}}, {Kind: api.ELet, Text: "x"}, {Kind: api.ELet, Kids: []api.Expr{one}},
		{Kind: api.EIf, Kids: []api.Expr{{Kind: api.EBool}, one}}, {Kind: api.EMatch}, {Kind: api.EMatch, Kids: []api.Expr{one, one}}, {Kind: api.EMatch, Kids: []api.Expr{one}, Pats: []api.Pat{{Kind: api.PAny}}}, {Kind: api.EMatch, Kids: []api.Expr{one, one}, Pats: []api.Pat{{}}},
		{Kind: api.ETry}, {Kind: api.ESeq}, {Kind: api.EOp, Text: "+"}, {Kind: api.EOp, Text: "+", Kids: []api.Expr{one}}, {Kind: api.EOp, Text: "++", Kids: []api.Expr{one, one}}, {Kind: api.EOp, Kids: []api.Expr{one, one}}, {Kind: api.EOp, Text: "::", Kids: []api.Expr{one, {Kind: api.ENil}}},
		{Kind: api.ENeg}, {Kind: api.ENeg, Kids: []api.Expr{one, one}}, {Kind: api.EGet},
	} {
		env, c, e := infer.Decl(infer.Base(), api.Decl{Kind: api.DExpr, E: x})
		if e != api.ErrType || c.N != 0 || c.T.Name != "" {
			t.Errorf("%v: %v, %d", x, c, e)
		}
		isNothing(t, "a wrong form", env)
	}
	for _, kind := range []byte{0, 4, 255} {
		env, c, e := infer.Decl(infer.Base(), api.Decl{Kind: kind, Text: "x", E: one})
		if e == api.OK || c.N != 0 || c.T.Name != "" {
			t.Errorf("the declaration %d: %v, %d", kind, c, e)
		}
		isNothing(t, "a wrong declaration", env)
	}
}

// P1: types of any form in a declaration, and numbers of variables.
func TestAnyType(t *testing.T) {
	deep := of("int")
	for range 300000 {
		deep = of("list", deep)
	}
	for _, k := range []api.Type{{}, variable(1), variable(3), variable(-1), variable(math.MinInt), of("->"), of("->", of("int")), of("*"), of("*", of("int")), of("list"), of("int", variable(1)), deep, of("->", deep, deep)} {
		for _, n := range []int{0, 1, 2, -1, math.MaxInt, math.MinInt} {
			d := api.Decl{Kind: api.DType, Text: "t", N: n, Ctors: []api.Ctor{{Name: "A"}, {Name: "B", Has: true, T: k}, {Name: "C", T: k}}}
			infer.Decl(infer.Base(), d)
			d.Ctors = d.Ctors[:1]
			env, _, _ := infer.Decl(infer.Base(), d)
			infer.Decl(env, parsed(t, "let x = A in (x, A)")[0])
		}
	}
	if _, _, e := infer.Decl(infer.Base(), api.Decl{Kind: api.DType, Text: "t"}); e != api.OK {
		t.Errorf("a type without constructors: %d", e)
	}
}

// P1: environments that no function makes.
func TestAnyEnv(t *testing.T) {
	l := parsed(t, "let f = fun x -> (let g = fun y -> (x, y, a, b) in (g 1, g x, A, B (a, b))) in f a ;; type t = T of u ;; A ;; B 1 ;; a b ;; fun z -> let h = (a, z, b) in h")
	for _, v := range []int{0, 1, 2, 3, 5, 100, -1, -3, -100, math.MaxInt, math.MinInt} {
		for _, n := range []int{0, 1, 3, -1, 3000, math.MaxInt, math.MinInt} {
			k := of("*", variable(v), variable(1), variable(-2), of("", of("int")))
			env := infer.Env{
				Types: []string{"u", "int"},
				Arity: []int{0},
				Cons:  []infer.Con{{Name: "A", N: n, T: k}, {Name: "B", Type: "u", N: n, Has: true, T: k}},
				Vals:  []infer.Val{{Name: "a", S: api.Scheme{N: n, T: k}}, {Name: "b", S: api.Scheme{N: n, T: variable(v)}}},
			}
			for _, d := range l {
				infer.Decl(env, d)
				infer.Decl(infer.Env{}, d)
				infer.Decl(infer.Env{Vals: env.Vals}, d)
			}
			infer.Cell(env, l)
		}
	}
	env, c, e := infer.Cell(infer.Env{}, parsed(t, "let f x = x ;; f 1 ;; type t = A"))
	if e != api.OK || len(c) != 3 || len(env.Vals) != 1 || len(env.Types) != 1 || len(env.Cons) != 1 {
		t.Errorf("an empty environment: %v, %v, %d", env, c, e)
	}
}

// P1: what is nested more deeply than calls may be.
func TestDeep(t *testing.T) {
	defer debug.SetMaxStack(debug.SetMaxStack(64 << 20))
	const n = 100000
	env := known(t, someTypes)
	for kind := range byte(24) {
		for kids := 1; kids <= 3; kids++ {
			for at := range kids {
				x := api.Expr{Kind: api.ENil}
				for range n {
					y := api.Expr{Kind: kind, Text: "B", Kids: make([]api.Expr, kids), Pats: make([]api.Pat, kids-1)}
					for i := range y.Kids {
						y.Kids[i].Kind = api.ENil
					}
					for i := range y.Pats {
						y.Pats[i].Kind = api.PAny
					}
					y.Kids[at] = x
					x = y
				}
				infer.Decl(env, api.Decl{Kind: api.DLet, Text: "x", E: x})
				infer.Decl(env, api.Decl{Kind: api.DExpr, E: api.Expr{Kind: api.ELet, Text: "x", Kids: []api.Expr{x, x}}})
			}
		}
	}
	for kind := range byte(12) {
		for kids := 1; kids <= 3; kids++ {
			p := api.Pat{Kind: api.PNil}
			for range n {
				q := api.Pat{Kind: kind, Text: "B", Kids: make([]api.Pat, kids)}
				q.Kids[kids-1] = p
				p = q
			}
			x := api.Expr{Kind: api.EMatch, Kids: []api.Expr{{Kind: api.ENil}, {Kind: api.EInt}}, Pats: []api.Pat{p}}
			infer.Decl(env, api.Decl{Kind: api.DExpr, E: x})
		}
	}
}

// P7.1: what is nested as deeply as a cell can be has a type.
func TestLongCells(t *testing.T) {
	for s, want := range map[string]string{
		"let x = " + strings.Repeat("1+", 990) + "1":                  "int",
		"let l = [" + strings.Repeat("1;", 990) + "1]":                "int list",
		"let f x = [" + strings.Repeat("x;", 980) + "x]":              "'a -> 'a list",
		"fail \"\"" + strings.Repeat(" 1", 990):                       "'a",
		"(fun " + strings.Repeat("x ", 980) + "-> x) = fail \"\"":     "bool",
		"match [] with [" + strings.Repeat("1;", 980) + "1]->1":       "int",
		"match [] with " + strings.Repeat("1::", 23) + "_->1":         "int",
		"(" + strings.Repeat("1,", 990) + "1)=fail \"\"":              "bool",
		"fun x -> (" + strings.Repeat("[[x]]=[x]||", 100) + "true)":   "",
		"fun x -> (" + strings.Repeat("[[x]]=[[x]]||", 100) + "true)": "'a -> bool",
	} {
		isType(t, infer.Base(), s, want)
	}
}
