package code_test

import (
	"strconv"
	"strings"
	"testing"

	"battledore/api"
	"battledore/code"
	"battledore/infer"
	"battledore/octet"
)

// list: n different names, of two letters each.
func list(n int) []string {
	var l []string
	for a := 'a'; len(l) < n; a++ {
		for b := 'A'; b <= 'Z' && len(l) < n; b++ {
			l = append(l, string(a)+string(b))
		}
	}
	return l
}

func repeated(s string, n int) string { return strings.TrimSuffix(strings.Repeat(s+",", n), ",") }

// letIn: two expressions, the first one with a name in the second one. (Together they may be longer than a cell.)
func letIn(t *testing.T, name, a, b string) api.Expr {
	return api.Expr{Kind: api.ELet, Text: name, Kids: []api.Expr{parsed(t, a)[0].E, parsed(t, b)[0].E}}
}

// P8.1, for the sake of P12.2: a function isn't made of more than four times 40 words, however many names there are that it uses.
func TestManyNames(t *testing.T) {
	n := namesOf(infer.Base())
	names := list(288)
	some := names[:235]
	for what, x := range map[string]api.Expr{
		"arguments": letIn(t, "g",
			"(fun "+strings.Join(some, " ")+" x y->"+strings.Join(some, "+")+"+x+y)"+strings.Repeat(" 1", len(some)),
			"let rec l n = if n = 0 then [] else g n :: l (n - 1) in match l 200 with a :: b :: r -> (a 1, b 2)"),
		"parts": letIn(t, "t", "("+repeated("1", 96)+")",
			"let rec l n=if n=0 then [] else match t with("+strings.Join(names[:96], ",")+")->match t with("+strings.Join(names[96:192], ",")+")->match t with("+strings.Join(names[192:], ",")+")->(fun x->"+strings.Join(names, "+")+"+x+n)::l(n-1)in match l 200 with a::b::r->(a 1,b 2)"),
		"parts at the top": parsed(t, "match("+repeated("1", 48)+",("+repeated("2", 48)+"))with("+strings.Join(names[:48], ",")+",("+strings.Join(names[48:96], ",")+"))->let f=fun x->"+strings.Join(names[:96], "+")+"+x in(f 1,f 2)")[0].E,
		"few parts": letIn(t, "t", "("+repeated("1", 60)+")",
			"let rec l n=if n=0 then [] else match t with("+strings.Join(names[:60], ",")+")->(fun x->"+strings.Join(names[:60], "+")+"+x+n)::l(n-1)in match l 200 with a::b::r->(a 1,b 2)"),
		"parts in a function": letIn(t, "t", "("+repeated("1", 96)+")",
			"let rec l n=if n=0 then [] else(match t with("+strings.Join(names[:96], ",")+")->fun x y->match t with("+strings.Join(names[96:192], ",")+")->fun z->"+strings.Join(names[:192], "+")+"+x+y+z+n) 1 2::l(n-1)in match l 200 with a::b::r->(a 1,b 2)"),
	} {
		got := agrees(t, n, x, 2000)
		if !strings.HasPrefix(got, "(") {
			t.Errorf("%s: %s", what, got)
		}
	}
}

// longest: cells that are as long as cells are.
func longest() map[string]string {
	names := list(300)
	deep := "()"
	for range 15 {
		deep = "(" + deep + ",1)"
	}
	return map[string]string{
		"a sum":                  "1" + strings.Repeat("+1", 990),
		"a list":                 "[1" + strings.Repeat(";1", 990) + "]",
		"a tuple":                "(1" + strings.Repeat(",1", 990) + ")=fail \"\"",
		"a call":                 "fail \"\"" + strings.Repeat(" 1", 980),
		"a function":             "(fun " + strings.Repeat("x ", 980) + "-> x)=fail\"\"",
		"a function of all":      "(fun " + strings.Join(names, " ") + " -> " + strings.Join(names, "+") + ")=fail\"\"",
		"a list matched":         "match [] with [1" + strings.Repeat(";1", 980) + "] -> 1 | _ -> 2",
		"a list of names":        "match [] with [" + strings.Join(names, ";") + "] -> " + strings.Join(names, "+") + " | _ -> 2",
		"a list in a function":   "match [] with [" + strings.Join(names, ";") + "] -> (fun x -> " + strings.Join(names, "+") + "+x) | _ -> fun x -> 2",
		"a list, the last names": "match [] with [_" + strings.Repeat(";_", 480) + ";a] -> fun x -> a" + strings.Repeat("+a", 480) + " | _ -> fun x -> 2",
		"a text":                 "\"" + strings.Repeat("x", 1990) + "\"",
		"texts":                  "\"\"" + strings.Repeat("^\"\"", 40),
		"many arms":              "match 1 with 1->1" + strings.Repeat("|1->1", 390),
		"many functions":         "(fun x->x)=(fun x->x)" + strings.Repeat("&&(fun x->x)=(fun x->x)", 40),
		"deep":                   deep,
		"lets":                   strings.Repeat("let x=1 in ", 20) + "x",
		"tries":                  strings.Repeat("try ", 20) + "1" + strings.Repeat(" with e -> 1", 20),
		"a sequence":             strings.Repeat("();", 24) + "1",
	}
}

// P8.1, P8.3: the functions of a cell that is as long as cells are can be written and read.
func TestLongCells(t *testing.T) {
	n := namesOf(infer.Base())
	for what, s := range longest() {
		x := parsed(t, s)[0].E
		all := compiled(t, n, "", x, 0)
		if len(all) > 1000 {
			t.Errorf("%s: %d functions", what, len(all))
		}
		total := 0
		for _, f := range all {
			total += len(f.Code)
		}
		if total > 1<<18 {
			t.Errorf("%s: %d instructions", what, total)
		}
		w := &octet.Writer{}
		code.Encode(w, all)
		r := octet.NewReader(w.Done())
		if got := code.Decode(r); !same(got, all) || !r.End() {
			t.Errorf("%s: other functions", what)
		}
		agrees(t, n, x, 300)
	}
}

// P8.1: what infer finds a type for, though no cell leads to it: more names around a function than a tuple has parts.
func TestLongerThanCells(t *testing.T) {
	x := api.Expr{Kind: api.EInt, N: 1}
	var all []string
	for i := range 700 {
		all = append(all, "a"+strconv.Itoa(i), "b"+strconv.Itoa(i))
	}
	for i, s := range all {
		if i%100 == 0 {
			x = made(api.EOp, "+", x, made(api.EVar, s))
		}
	}
	x = made(api.EApp, "", made(api.EFun, "z", made(api.EApp, "", made(api.EFun, "y", x), number(2))), number(3))
	for i, s := range all {
		x = made(api.ELet, s, number(int64(i)), x)
	}
	if got, _, _ := bothWays(t, namesOf(infer.Base()), x, 100); got != "9101; ; 98" {
		t.Error(got)
	}
	x = made(api.ETuple, "")
	for i := range 1000 {
		x.Kids = append(x.Kids, number(int64(i)))
	}
	agrees(t, namesOf(infer.Base()), x, 0)
}
