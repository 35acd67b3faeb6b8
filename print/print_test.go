package print_test

import (
	"math"
	"reflect"
	"runtime/debug"
	"strings"
	"testing"

	"battledore/api"
	"battledore/parse"
	"battledore/print"
)

// parsed: what a cell consists of.
func parsed(t *testing.T, s string) []api.Decl {
	t.Helper()
	l, at, e := parse.Cell(s)
	if e != api.OK {
		t.Fatalf("Cell(%q): %d at %d", s, e, at)
	}
	return l
}

// is asks as what a cell is printed, and that this is parsed to the same.
func is(t *testing.T, s, want string) {
	t.Helper()
	l := parsed(t, s)
	if got := print.Cell(l); got != want {
		t.Errorf("%q is printed as %s, want %s", s, got, want)
	}
	if again := parsed(t, want); !reflect.DeepEqual(l, again) {
		t.Errorf("%q is parsed to another thing than %q", want, s)
	}
}

// P5.1: Quote.
func TestQuote(t *testing.T) {
	for s, want := range map[string]string{
		"":                     `""`,
		"a":                    `"a"`,
		"a\\b\"c\nd\te":        `"a\\b\"c\nd\te"`,
		`\n`:                   `"\\n"`,
		"\\\\\"\"":             `"\\\\\"\""`,
		"\r\x00\x7f\xff\xc3é'": "\"\r\x00\x7f\xff\xc3é'\"",
		"(* *)":                `"(* *)"`,
	} {
		if got := print.Quote(s); got != want {
			t.Errorf("Quote(%q) = %s, want %s", s, got, want)
		}
	}
	for b := range 256 {
		s := string([]byte{'a', byte(b), 'z'})
		l := parsed(t, print.Quote(s))
		if x := l[0].E; len(l) != 1 || x.Kind != api.EText || x.Text != s {
			t.Errorf("Quote(%q) = %q", s, print.Quote(s))
		}
	}
	if long := strings.Repeat("\n\"", 100000); print.Quote(long) != `"`+strings.Repeat(`\n\"`, 100000)+`"` {
		t.Error("Quote of a long text")
	}
}

// P5.1: expressions, as declarations of their own.
func TestExpr(t *testing.T) {
	for s, want := range map[string]string{
		"0":                                      "0",
		"007":                                    "7",
		"4611686018427387903":                    "4611686018427387903",
		`"a\n\"\\\t"`:                            `"a\n\"\\\t"`,
		"true":                                   "true",
		"false":                                  "false",
		"( )":                                    "()",
		"x'":                                     "x'",
		"((x))":                                  "x",
		"C":                                      "C",
		"(C)":                                    "C",
		"C 1":                                    "(C 1)",
		"C(D)":                                   "(C D)",
		"C(D 1)":                                 "(C (D 1))",
		"C()":                                    "(C ())",
		"C(1,2)":                                 "(C (1, 2))",
		"(1 ,2,x)":                               "(1, 2, x)",
		"((1,2),(3,4))":                          "((1, 2), (3, 4))",
		"[ ]":                                    "[]",
		"[1]":                                    "(1 :: [])",
		"[1;2;3]":                                "(1 :: (2 :: (3 :: [])))",
		"a::b::c":                                "(a :: (b :: c))",
		"(a::b)::c":                              "((a :: b) :: c)",
		"fun x->x":                               "(fun x -> x)",
		"fun x y->x":                             "(fun x -> (fun y -> x))",
		"f x":                                    "(f x)",
		"f x y":                                  "((f x) y)",
		"f(g x)":                                 "(f (g x))",
		"f C":                                    "(f C)",
		"f C x":                                  "((f C) x)",
		"f (C x)":                                "(f (C x))",
		"(C) x":                                  "((C) x)",
		"(C) x y":                                "(((C) x) y)",
		"(C) D":                                  "((C) D)",
		"(C x) y":                                "((C x) y)",
		"f ((C) x)":                              "(f ((C) x))",
		"let x=1 in x":                           "(let x = 1 in x)",
		"(let x=1 in x)":                         "(let x = 1 in x)",
		"let f x y=x in f":                       "(let f = (fun x -> (fun y -> x)) in f)",
		"let rec f x=f x in f":                   "(let rec f = (fun x -> (f x)) in f)",
		"if a then b else c":                     "(if a then b else c)",
		"if a;b then c else d;e":                 "((if (a; b) then c else d); e)",
		"match a with x->b":                      "(match a with | x -> b)",
		"match a with|x->b|_->c;d":               "(match a with | x -> b | _ -> (c; d))",
		"match a with x->match b with y->c|z->d": "(match a with | x -> (match b with | y -> c | z -> d))",
		"match a with x->(match b with y->c)|z->d": "(match a with | x -> (match b with | y -> c) | z -> d)",
		"try a with e->b":                          "(try a with e -> b)",
		"try a;b with e->c;d":                      "(try (a; b) with e -> (c; d))",
		"a;b":                                      "(a; b)",
		"a;b;c":                                    "(a; (b; c))",
		"(a;b);c":                                  "((a; b); c)",
		"f x+1":                                    "((f x) + 1)",
		"a+b*c-d":                                  "((a + (b * c)) - d)",
		"a:=b||c&&d=e::f^g+h*i":                    "(a := (b || (c && (d = (e :: (f ^ (g + (h * i))))))))",
		"a<>b<=c<d":                                "(((a <> b) <= c) < d)",
		"a mod b/c":                                "((a mod b) / c)",
		"-a":                                       "(- a)",
		"- - 1":                                    "(- (- 1))",
		"-1-2":                                     "((- 1) - 2)",
		"1- -2":                                    "(1 - (- 2))",
		"-f x":                                     "(- (f x))",
		"!a":                                       "!a",
		"! ! a":                                    "!!a",
		"!C":                                       "!C",
		"!(C 1)":                                   "!(C 1)",
		"!(f x)":                                   "!(f x)",
		"!f x":                                     "(!f x)",
		"f !x":                                     "(f !x)",
		"!(a,b)":                                   "!(a, b)",
		"!(-1)":                                    "!(- 1)",
		"!()":                                      "!()",
		"!r; ()":                                   "(!r; ())",
		"![1]":                                     "!(1 :: [])",
		"C !x":                                     "(C !x)",
		"(f, !x, [], -1, a; b)":                    "(f, !x, [], (- 1), (a; b))",
		"r := !r + 1":                              "(r := (!r + 1))",
	} {
		is(t, s, want)
		if x := parsed(t, s)[0].E; print.Expr(x) != want {
			t.Errorf("Expr of %q = %s, want %s", s, print.Expr(x), want)
		}
	}
}

// P5.1: patterns.
func TestPat(t *testing.T) {
	for s, want := range map[string]string{
		"_":                    "_",
		"x":                    "x",
		"0":                    "0",
		"007":                  "7",
		"- 5":                  "-5",
		"-4611686018427387903": "-4611686018427387903",
		`"a\t"`:                `"a\t"`,
		"true":                 "true",
		"false":                "false",
		"( )":                  "()",
		"((x))":                "x",
		"(x ,_)":               "(x, _)",
		"((x,y),z)":            "((x, y), z)",
		"[ ]":                  "[]",
		"[x]":                  "(x :: [])",
		"[x;y]":                "(x :: (y :: []))",
		"x::y::z":              "(x :: (y :: z))",
		"(x::y)::z":            "((x :: y) :: z)",
		"C":                    "C",
		"C x":                  "(C x)",
		"C - 1":                "(C -1)",
		"C D":                  "(C D)",
		"C(D x)":               "(C (D x))",
		"C(x,y)":               "(C (x, y))",
		"C x::D::y":            "((C x) :: (D :: y))",
		"(-1,[-2],C)":          "(-1, (-2 :: []), C)",
	} {
		is(t, "match a with "+s+"->b", "(match a with | "+want+" -> b)")
		if p := parsed(t, "match a with "+s+"->b")[0].E.Pats[0]; print.Pat(p) != want {
			t.Errorf("Pat of %q = %s, want %s", s, print.Pat(p), want)
		}
	}
}

// P5.2: declarations, and what stands between them.
func TestDecl(t *testing.T) {
	for s, want := range map[string]string{
		"":                              "",
		";;":                            "",
		"let x=1":                       "let x = 1",
		"let f x=x":                     "let f = (fun x -> x)",
		"let rec f x=f x":               "let rec f = (fun x -> (f x))",
		"let x=1;2":                     "let x = (1; 2)",
		"let x=let y=1 in y":            "let x = (let y = 1 in y)",
		"type t=A":                      "type t = A",
		"type t=|A|B|C":                 "type t = A | B | C",
		"type t=A of int|B|C of t list": "type t = A of int | B | C of t list",
		"type 'x t=A of 'x":             "type ('a) t = A of 'a",
		"type('x)t=A":                   "type ('a) t = A",
		"type('b,'a)t=A of 'a*'b":       "type ('a, 'b) t = A of 'b * 'a",
		"type t=A of a*b->(c->d)list":   "type t = A of a * b -> (c -> d) list",
		"1;;2;;;;3":                     "1 ;; 2 ;; 3",
		";;let x=1;;x;;type t=A;;A;;":   "let x = 1 ;; x ;; type t = A ;; A",
		"let x=1 in x;;let x=1":         "(let x = 1 in x) ;; let x = 1",
	} {
		is(t, s, want)
		if l := parsed(t, s); len(l) == 1 && print.Decl(l[0]) != want {
			t.Errorf("Decl of %q = %s, want %s", s, print.Decl(l[0]), want)
		}
	}
	var vars, want []string
	for n := range 30 {
		vars, want = append(vars, "'v"+strings.Repeat("x", n%20)+strings.Repeat("y", n/20)), append(want, print.Var(n+1))
	}
	is(t, "type ("+strings.Join(vars, ",")+") t = A of "+vars[29], "type ("+strings.Join(want, ", ")+") t = A of 't30")
}

// P5.2: Var.
func TestVar(t *testing.T) {
	for n := range 26 {
		if got := print.Var(n + 1); got != "'"+string(rune('a'+n)) {
			t.Errorf("Var(%d) = %s", n+1, got)
		}
	}
	for n, want := range map[int]string{1: "'a", 2: "'b", 20: "'t", 26: "'z", 27: "'t27", 28: "'t28", 100: "'t100", 0: "'t0", -1: "'t-1", math.MaxInt64: "'t9223372036854775807", math.MinInt64: "'t-9223372036854775808", 27 + 1<<32: "'t4294967323", 1 + 1<<32: "'t4294967297"} {
		if got := print.Var(n); got != want {
			t.Errorf("Var(%d) = %s, want %s", n, got, want)
		}
	}
}

func named(s string, l ...api.Type) api.Type { return api.Type{Name: s, Kids: l} }

// P5.2: Type, for each place where a type can stand.
func TestType(t *testing.T) {
	a, b, c := api.Type{Var: 1}, api.Type{Var: 2}, named("int")
	f, p, l := named("->", a, b), named("*", a, b), named("list", a)
	for _, x := range []struct {
		t    api.Type
		want string
	}{
		{a, "'a"},
		{api.Type{Var: 27}, "'t27"},
		{api.Type{}, "'t0"},
		{api.Type{Var: -3}, "'t-3"},
		{c, "int"},
		{f, "'a -> 'b"},
		{p, "'a * 'b"},
		{l, "'a list"},
		{named("->", f, c), "('a -> 'b) -> int"},
		{named("->", c, f), "int -> 'a -> 'b"},
		{named("->", f, f), "('a -> 'b) -> 'a -> 'b"},
		{named("->", p, p), "'a * 'b -> 'a * 'b"},
		{named("->", l, l), "'a list -> 'a list"},
		{named("->", a, named("->", named("->", b, c), named("->", c, a))), "'a -> ('b -> int) -> int -> 'a"},
		{named("->", named("->", f, a), b), "(('a -> 'b) -> 'a) -> 'b"},
		{named("*", a, b, c), "'a * 'b * int"},
		{named("*", f, c), "('a -> 'b) * int"},
		{named("*", c, f), "int * ('a -> 'b)"},
		{named("*", p, c), "('a * 'b) * int"},
		{named("*", c, p), "int * ('a * 'b)"},
		{named("*", l, l, l), "'a list * 'a list * 'a list"},
		{named("*", p, f, p), "('a * 'b) * ('a -> 'b) * ('a * 'b)"},
		{named("list", l), "'a list list"},
		{named("list", f), "('a -> 'b) list"},
		{named("list", p), "('a * 'b) list"},
		{named("list", named("list", f)), "('a -> 'b) list list"},
		{named("t", a, b), "('a, 'b) t"},
		{named("t", f, p, l, c), "('a -> 'b, 'a * 'b, 'a list, int) t"},
		{named("t", named("t", a, b), named("t", b, a)), "(('a, 'b) t, ('b, 'a) t) t"},
		{named("list", named("t", a, b)), "('a, 'b) t list"},
		{named("->", named("->", a, b), named("list", a)), "('a -> 'b) -> 'a list"},
		{named("->", named("*", f, l), named("ref", p)), "('a -> 'b) * 'a list -> ('a * 'b) ref"},
	} {
		if got := print.Type(x.t); got != x.want {
			t.Errorf("Type(%v) = %s, want %s", x.t, got, x.want)
		}
	}
}

// P1: kinds that do not exist, and things that have too few parts, or too many.
func TestMisshapen(t *testing.T) {
	pats := []api.Pat{{Kind: api.PVar, Text: "x"}, {}, {Kind: 200}, {Kind: api.PTuple}}
	kids := []api.Expr{{Kind: api.EVar, Text: "x"}, {}, {Kind: 200}, {Kind: api.ECon, Text: "C"}, {Kind: api.EInt, N: math.MinInt64}}
	types := []api.Type{{}, {Name: "->"}, {Name: "*"}, {Name: "t"}}
	for kind := range 256 {
		for n := range len(kids) + 1 {
			x := api.Expr{Kind: byte(kind), Kids: kids[:n], N: -5, Rec: n == 1}
			print.Pat(api.Pat{Kind: byte(kind), Kids: pats[:min(n, len(pats))], N: math.MinInt64})
			for m := range pats {
				x.Pats = pats[:m]
				print.Expr(x)
			}
			d := api.Decl{Kind: byte(kind), E: x, N: n - 3, Ctors: []api.Ctor{{}, {Has: true}, {Has: true, T: named("->", types...)}}[:n%4]}
			print.Decl(d)
			print.Cell([]api.Decl{d, {}, d})
		}
	}
	for _, name := range []string{"", "->", "*", "list"} {
		for n := range len(types) + 1 {
			print.Type(named(name, types[:n]...))
			print.Type(named("->", named(name, types[:n]...)))
		}
	}
}

// P1: things that are nested deeper than a cell's can be.
func TestDeep(t *testing.T) {
	defer debug.SetMaxStack(debug.SetMaxStack(1 << 20))
	const deep = 50000
	x, p, f, l := api.Expr{Kind: api.EUnit}, api.Pat{Kind: api.PNil}, named("int"), named("int")
	for range deep {
		x = api.Expr{Kind: api.EGet, Kids: []api.Expr{x}}
		p = api.Pat{Kind: api.PCons, Kids: []api.Pat{{Kind: api.PAny}, p}}
		f, l = named("->", f, named("a")), named("list", l)
	}
	if got := print.Expr(x); got != strings.Repeat("!", deep)+"()" {
		t.Errorf("Expr: %d bytes", len(got))
	}
	if got := print.Pat(p); got != strings.Repeat("(_ :: ", deep)+"[]"+strings.Repeat(")", deep) {
		t.Errorf("Pat: %d bytes", len(got))
	}
	if got := print.Type(f); got != strings.Repeat("(", deep-1)+"int"+strings.Repeat(" -> a)", deep-1)+" -> a" {
		t.Errorf("Type: %d bytes", len(got))
	}
	if got := print.Type(l); got != "int"+strings.Repeat(" list", deep) {
		t.Errorf("Type: %d bytes", len(got))
	}
	if got := print.Decl(api.Decl{Kind: api.DType, Text: "t", Ctors: []api.Ctor{{Name: "A", Has: true, T: l}}}); len(got) != len("type t = A of int")+5*deep {
		t.Errorf("Decl: %d bytes", len(got))
	}
	if got := print.Cell([]api.Decl{{Kind: api.DExpr, E: x}, {Kind: api.DLet, Text: "x", E: x}}); len(got) != 2*(deep+2)+len(" ;; let x = ") {
		t.Errorf("Cell: %d bytes", len(got))
	}
}

// The rule about memory, and P2: what is printed stays as it is, and is printed the same again.
func TestMemory(t *testing.T) {
	s := "let f x y = (x, [y; C 1], match x with (a, b) :: [] -> a; b | D _ -> f x y) ;; type ('a, 'b) t = A of 'a * ('b, int) t -> 'a list | B ;; if a then b + c else - d"
	l, other := parsed(t, s), parsed(t, s)
	first := print.Cell(l)
	for _, d := range l {
		print.Decl(d)
		print.Expr(d.E)
	}
	if !reflect.DeepEqual(l, other) || print.Cell(l) != first {
		t.Error("printing has modified its argument")
	}
}
