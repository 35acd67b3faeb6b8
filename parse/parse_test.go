package parse_test

import (
	"math/rand"
	"reflect"
	"runtime/debug"
	"slices"
	"strings"
	"testing"

	"battledore/api"
	"battledore/parse"
)

// P4.1: declarations, and what stands between them.
func TestCell(t *testing.T) {
	for s, want := range map[string]string{
		"":                             "",
		" (* a *) ":                    "",
		";;":                           "",
		";; ;; ;;;;":                   "",
		"1":                            "1",
		";;1":                          "1",
		"1;;":                          "1",
		";;;;1;;;;;;2;;;;":             "1 2",
		"1;;2;;3":                      "1 2 3",
		"let x = 1":                    "{LET x 1}",
		"let x = 1 ;; x":               "{LET x 1} x",
		"let x = 1; 2":                 "{LET x {seq 1 2}}",
		"let f x = x in f 1 ;; 2":      "{let f {fun x x} {app f 1}} 2",
		"let x = 1 in x; y":            "{let x 1 {seq x y}}",
		"let x = let y = 1 in y":       "{LET x {let y 1 y}}",
		"let x = let y = 1 in y in x":  "{let x {let y 1 y} x}",
		"let x = 1 in let y = 2 in x":  "{let x 1 {let y 2 x}}",
		"let x = (let y = 1 in y)":     "{LET x {let y 1 y}}",
		"type t = A":                   "{TYPE 0 t A}",
		"type t = A ;; A ;; let a = A": "{TYPE 0 t A} {con A} {LET a {con A}}",
		"let rec f x = f x":            "{LETREC f {fun x {app f x}}}",
		"let rec f x = f x in f":       "{letrec f {fun x {app f x}} f}",
	} {
		is(t, s, want)
	}
	for s, at := range map[string]int{
		";": 0, "1 ; ;; 2": 4, "1 2 ;": 5, "let": 3, "let x": 5, "let x =": 7, "let = 1": 4, "let x 1": 6, "let X = 1": 4, "let _ = 1": 4, "let () = 1": 4, "let x = 1 in": 12,
		"let x = 1 in ;; 2": 13, "let x = 1 let": 10, "let x = 1 )": 10, "let x y X = 1": 8, "let x = 1 in y in z": 15, "1 in 2": 2, "1 )": 2, "1 type": 2, "let rec = 1": 8, "let rec rec f = 1": 8,
		"rec": 0, "in": 0, "= 1": 0, "let x = in 1": 8, "let let x = 1": 4, "let 1 = 1": 4, "let \"x\" = 1": 4, "let x, y = 1": 5, "x let y = 1 in y": 2, "1 ;; ) ;; 2": 5, "'a": 0, "let 'a = 1": 4,
	} {
		wrong(t, s, at, api.ErrText)
	}
}

// P4.1: names that are bound are those of functions, the last one innermost.
func TestFunctions(t *testing.T) {
	for s, want := range map[string]string{
		"let f a b c = a":                   "{LET f {fun a {fun b {fun c a}}}}",
		"let f a b = a in f":                "{let f {fun a {fun b a}} f}",
		"let f a a = a":                     "{LET f {fun a {fun a a}}}",
		"let f f = f":                       "{LET f {fun f f}}",
		"let f x = fun y -> x":              "{LET f {fun x {fun y x}}}",
		"fun x -> x":                        "{fun x x}",
		"fun a b c -> b":                    "{fun a {fun b {fun c b}}}",
		"fun x -> a; b":                     "{fun x {seq a b}}",
		"fun x -> fun y -> x":               "{fun x {fun y x}}",
		"let rec f = fun x -> x":            "{LETREC f {fun x x}}",
		"let rec f = (fun x -> x)":          "{LETREC f {fun x x}}",
		"let rec f = ((fun x y -> x)) in 1": "{letrec f {fun x {fun y x}} 1}",
		"let rec f x y = 1":                 "{LETREC f {fun x {fun y 1}}}",
		"let rec f x = 1; 2":                "{LETREC f {fun x {seq 1 2}}}",
		"(let rec f x = 1 in f)":            "{letrec f {fun x 1} f}",
		"let f = 1":                         "{LET f 1}",
	} {
		is(t, s, want)
	}
	for s, at := range map[string]int{
		"fun -> x": 4, "fun x": 5, "fun x = 1": 6, "fun 1 -> x": 4, "fun (x) -> x": 4, "fun _ -> x": 4, "fun x ->": 8, "fun x X -> 1": 6, "fun x -> )": 9,
	} {
		wrong(t, s, at, api.ErrText)
	}
}

// P4.1: a rec that is not a function.
func TestRec(t *testing.T) {
	for s, at := range map[string]int{
		"let rec x = 5":                           12,
		"let rec x = 5 in x":                      12,
		"let rec x=(5)":                           10,
		"let rec x = 5 )":                         12,
		"let rec x = 5 then":                      12,
		"let rec x = (fun y -> y) 1":              12,
		"let rec x = fun y -> y ;; let rec z = y": 38,
		"let rec f = (fun x -> x; 1); 2":          12,
		"1 + (let rec x = - 1 in x)":              17,
		"let rec f = if a then fun x -> x else f": 12,
		"let rec f = let g x = x in g":            12,
		"let rec f x = let rec y = 2 in y":        26,
		"let rec f = let rec g = 1 in 2":          24,
		"let rec x = C":                           12,
		"let rec x = []":                          12,
	} {
		wrong(t, s, at, api.ErrText)
	}
	for s, at := range map[string]int{
		"let rec x = 5 +":            15, // it is asked once what is bound has been parsed
		"let rec x = (5":             14,
		"let rec x = 5; )":           15,
		"let rec x = if a then b":    23,
		"let rec f = fun x -> x ) 1": 23,
		"let rec x = match y with":   24,
	} {
		wrong(t, s, at, api.ErrText)
	}
	wrong(t, "let rec x = match y with (a, a) -> 1", 25, api.ErrTwice)
}

// P4.1: terms that begin with a keyword.
func TestTerms(t *testing.T) {
	for s, want := range map[string]string{
		"1; 2":                                                 "{seq 1 2}",
		"1; 2; 3":                                              "{seq 1 {seq 2 3}}",
		"(1; 2); 3":                                            "{seq {seq 1 2} 3}",
		"a := 1; b := 2":                                       "{seq {op := a 1} {op := b 2}}",
		"if a then b else c":                                   "{if a b c}",
		"if a then b else c; d":                                "{seq {if a b c} d}",
		"if a; b then c else d":                                "{if {seq a b} c d}",
		"if a then b := 1 else c := 2":                         "{if a {op := b 1} {op := c 2}}",
		"if a then if b then c else d else e":                  "{if a {if b c d} e}",
		"if a then b else if c then d else e":                  "{if a b {if c d e}}",
		"if if a then b else c then d else e":                  "{if {if a b c} d e}",
		"if a then let x = 1 in b; c else d":                   "{if a {let x 1 {seq b c}} d}",
		"if a then fun x -> b; c else d":                       "{if a {fun x {seq b c}} d}",
		"if a then b else fun x -> c; d":                       "{if a b {fun x {seq c d}}}",
		"let x = 1; 2 in 3; 4":                                 "{let x {seq 1 2} {seq 3 4}}",
		"1; let x = 2 in 3; 4":                                 "{seq 1 {let x 2 {seq 3 4}}}",
		"try a with e -> b":                                    "{try e a b}",
		"try a; b with e -> c; d":                              "{try e {seq a b} {seq c d}}",
		"try try a with e -> b with f -> c":                    "{try f {try e a b} c}",
		"1; try a with e -> b":                                 "{seq 1 {try e a b}}",
		"match a with x -> b":                                  "{match a {x b}}",
		"match a with | x -> b":                                "{match a {x b}}",
		"match a with x -> b | y -> c":                         "{match a {x b} {y c}}",
		"match a with | x -> b | y -> c | _->d":                "{match a {x b} {y c} {any d}}",
		"match a; b with x -> c; d | y -> e; f":                "{match {seq a b} {x {seq c d}} {y {seq e f}}}",
		"match a with x -> match b with y -> c | z -> d":       "{match a {x {match b {y c} {z d}}}}",
		"match a with x -> (match b with y -> c) | z -> d":     "{match a {x {match b {y c}}} {z d}}",
		"match match a with x -> b with y -> c":                "{match {match a {x b}} {y c}}",
		"match a with x -> b || c | y -> d":                    "{match a {x {op || b c}} {y d}}",
		"match a with x -> try b with e -> c | y -> d":         "{match a {x {try e b c}} {y d}}",
		"if a then match b with x -> c | y -> d; e else f":     "{if a {match b {x c} {y {seq d e}}} f}",
		"match a with x -> let y = 1 in y | z -> fun w -> w":   "{match a {x {let y 1 y}} {z {fun w w}}}",
		"match a with x -> if b then c else d | y -> e := f":   "{match a {x {if b c d}} {y {op := e f}}}",
		"let x = match a with y -> b | z -> c in d":            "{let x {match a {y b} {z c}} d}",
		"let f x = match x with [] -> 0 | _ :: r -> 1 ;; f []": "{LET f {fun x {match x {nil 0} {{cons any r} 1}}}} {app f nil}",
	} {
		is(t, s, want)
	}
	for s, at := range map[string]int{
		"1;": 2, "1; ;2": 3, "(1;)": 3, "if": 2, "if a": 4, "if a then": 9, "if a then b": 11, "if a then b; c else d": 11, "if a then b else": 16, "if a else b": 5, "if a then else b": 10, "if then": 3,
		"match": 5, "match a": 7, "match a with": 12, "match a with x": 14, "match a with x ->": 17, "match a with x -> b |": 21, "match a with x -> b | |": 22, "match a with || x -> b": 13, "match a with -> b": 13, "match with": 6, "match a | x -> b": 8, "match a with x = b": 15, "match a with x -> | y -> b": 18, "match a with | | x -> b": 15,
		"try": 3, "try a": 5, "try a with": 10, "try a with | e -> b": 11, "try a with e": 12, "try a with e ->": 15, "try a with _ -> b": 11, "try a with E -> b": 11, "try with e -> b": 4, "try a with e -> b | f -> c": 18, "try a with e f -> b": 13,
		"1 + let x = 1 in x": 4, "1 + fun x -> x": 4, "f fun x -> x": 2, "- if a then b else c": 2, "a := if b then c else d": 5, "! let x = 1 in x": 2, "C fun x -> x": 2, "a :: match b with x -> c": 5, "1 * try a with e -> b": 4,
		"then": 0, "else": 0, "with": 0, "of": 0, "mod": 0, "| x": 0, "-> x": 0, "a -> b": 2, "a, b": 1, "1 | 2": 2, "f type": 2, "let x = 1 in type t = A": 13, "(type t = A)": 1,
	} {
		wrong(t, s, at, api.ErrText)
	}
}

// P4.1: the precedence of operators, and to which side they associate.
func TestOperators(t *testing.T) {
	levels := [][]string{{":="}, {"||"}, {"&&"}, {"=", "<>", "<=", "<"}, {"::", "^"}, {"+", "-"}, {"*", "/", "mod"}}
	joined := func(op, a, b string) string {
		if op == "::" {
			return "{cons " + a + " " + b + "}"
		}
		return "{op " + op + " " + a + " " + b + "}"
	}
	for i, weak := range levels {
		for _, x := range weak {
			is(t, "a "+x+" b", joined(x, "a", "b"))
			for _, y := range weak {
				want := joined(y, joined(x, "a", "b"), "c")
				if i == 0 || i == 4 {
					want = joined(x, "a", joined(y, "b", "c"))
				}
				is(t, "a "+x+" b "+y+" c", want)
			}
			for _, strong := range levels[i+1:] {
				for _, y := range strong {
					is(t, "a "+x+" b "+y+" c", joined(x, "a", joined(y, "b", "c")))
					is(t, "a "+y+" b "+x+" c", joined(x, joined(y, "a", "b"), "c"))
					is(t, "(a "+x+" b) "+y+" c", joined(y, joined(x, "a", "b"), "c"))
				}
			}
			is(t, "- a "+x+" - b", joined(x, "{neg a}", "{neg b}"))
			is(t, "f a "+x+" ! b", joined(x, "{app f a}", "{get b}"))
			is(t, "C a "+x+" C", joined(x, "{con C a}", "{con C}"))
			is(t, "a "+x+" b; c", "{seq "+joined(x, "a", "b")+" c}")
			wrong(t, "a "+x, 2+len(x), api.ErrText)
			wrong(t, "a "+x+" )", 3+len(x), api.ErrText)
			if x != "-" {
				wrong(t, x+" a", 0, api.ErrText)
				wrong(t, "a "+x+" "+x+" b", 3+len(x), api.ErrText)
			}
			is(t, "f \""+x+"\" a", "{app {app f \""+x+"\"} a}")
		}
	}
	for s, want := range map[string]string{
		"a + b - c + d":                        "{op + {op - {op + a b} c} d}",
		"a * b / c mod d":                      "{op mod {op / {op * a b} c} d}",
		"a = b < c":                            "{op < {op = a b} c}",
		"a :: b ^ c :: d":                      "{cons a {op ^ b {cons c d}}}",
		"a := b := c := d":                     "{op := a {op := b {op := c d}}}",
		"a := b || c && d = e :: f + g * h":    "{op := a {op || b {op && c {op = d {cons e {op + f {op * g h}}}}}}}",
		"a * b + c :: d = e && f || g := h":    "{op := {op || {op && {op = {cons {op + {op * a b} c} d} e} f} g} h}",
		"f x+1":                                "{op + {app f x} 1}",
		"1-2":                                  "{op - 1 2}",
		"1 - - 2":                              "{op - 1 {neg 2}}",
		"- 1 - 2":                              "{op - {neg 1} 2}",
		"- 1 * 2":                              "{op * {neg 1} 2}",
		"1 * - 2":                              "{op * 1 {neg 2}}",
		"- - - a":                              "{neg {neg {neg a}}}",
		"- f x":                                "{neg {app f x}}",
		"- C x":                                "{neg {con C x}}",
		"- ! a":                                "{neg {get a}}",
		"f - x":                                "{op - f x}",
		"f (- x)":                              "{app f {neg x}}",
		"a mod b mod c":                        "{op mod {op mod a b} c}",
		"- 4611686018427387903":                "{neg 4611686018427387903}",
		"!a := !b + 1":                         "{op := {get a} {op + {get b} 1}}",
		"a::b":                                 "{cons a b}",
		"1 :: 2 :: []":                         "{cons 1 {cons 2 nil}}",
		strings.Repeat("a+", 900) + "a":        strings.Repeat("{op + ", 900) + "a" + strings.Repeat(" a}", 900),
		strings.Repeat("f ", 900) + "a":        strings.Repeat("{app ", 900) + "f" + strings.Repeat(" f}", 899) + " a}",
		strings.Repeat("a<b*c+d&&", 200) + "a": strings.Repeat("{op && ", 200) + "{op < a {op + {op * b c} d}}" + strings.Repeat(" {op < a {op + {op * b c} d}}}", 199) + " a}",
	} {
		is(t, s, want)
	}
}

// P4.1: calls and atoms.
func TestAtoms(t *testing.T) {
	for s, want := range map[string]string{
		"0":                      "0",
		"007":                    "7",
		"4611686018427387903":    "4611686018427387903",
		`"a\n\"(*"`:              `"a\n\"(*"`,
		`""`:                     `""`,
		"x":                      "x",
		"x'":                     "x'",
		"true":                   "bool1",
		"false":                  "bool0",
		"()":                     "unit",
		"( (* *) )":              "unit",
		"(x)":                    "x",
		"((x))":                  "x",
		"(x; y)":                 "{seq x y}",
		"(a, b)":                 "{tuple a b}",
		"(a, b, c, d)":           "{tuple a b c d}",
		"((a, b), c)":            "{tuple {tuple a b} c}",
		"(a; b, c; d)":           "{tuple {seq a b} {seq c d}}",
		"(fun x -> x, y)":        "{tuple {fun x x} y}",
		"(let x = 1 in x, y)":    "{tuple {let x 1 x} y}",
		"[]":                     "nil",
		"[ ]":                    "nil",
		"[1]":                    "{cons 1 nil}",
		"[1; 2; 3]":              "{cons 1 {cons 2 {cons 3 nil}}}",
		"[(1; 2)]":               "{cons {seq 1 2} nil}",
		"[1 :: []; [2]]":         "{cons {cons 1 nil} {cons {cons 2 nil} nil}}",
		"[a; let x = 1 in b; c]": "{cons a {cons {let x 1 {seq b c}} nil}}",
		"[if a then b else c; d := e; fun x -> x; y]": "{cons {if a b c} {cons {op := d e} {cons {fun x {seq x y}} nil}}}",
		"C":            "{con C}",
		"C 1":          "{con C 1}",
		"C ()":         "{con C unit}",
		"C (1, 2)":     "{con C {tuple 1 2}}",
		"C D":          "{con C {con D}}",
		"C (D 1)":      "{con C {con D 1}}",
		"C !a":         "{con C {get a}}",
		"C [1]":        "{con C {cons 1 nil}}",
		"(C) x":        "{app {con C} x}",
		"(C x) y":      "{app {con C x} y}",
		"(C) x y":      "{app {app {con C} x} y}",
		"f C x":        "{app {app f {con C}} x}",
		"f C D":        "{app {app f {con C}} {con D}}",
		"f (C x)":      "{app f {con C x}}",
		"C - 1":        "{op - {con C} 1}",
		"[C 1; C]":     "{cons {con C 1} {cons {con C} nil}}",
		"f x":          "{app f x}",
		"f x y z":      "{app {app {app f x} y} z}",
		"f (g x)":      "{app f {app g x}}",
		"1 2":          "{app 1 2}",
		"() ()":        "{app unit unit}",
		"f()":          "{app f unit}",
		"f[]":          "{app f nil}",
		"f true":       "{app f bool1}",
		"f false \"\"": `{app {app f bool0} ""}`,
		"true x":       "{app bool1 x}",
		"\"a\" x":      `{app "a" x}`,
		"[] x":         "{app nil x}",
		"f !x !y":      "{app {app f {get x}} {get y}}",
		"!f x":         "{app {get f} x}",
		"!(f x)":       "{get {app f x}}",
		"!!x":          "{get {get x}}",
		"!C":           "{get {con C}}",
		"!C x":         "{app {get {con C}} x}",
		"!1":           "{get 1}",
		"![]":          "{get nil}",
		"!()":          "{get unit}",
	} {
		is(t, s, want)
	}
	for s, at := range map[string]int{
		"(": 1, ")": 0, "(1": 2, "(1,": 3, "(1,)": 3, "(,1)": 1, "(1 2": 4, "(1]": 2, "(1,2": 4, "[": 1, "]": 0, "[1": 2, "[1;": 3, "[1;]": 3, "[;1]": 1, "[1,2]": 2, "[1)": 2, "[1;;2]": 2, "[1 2;3": 6,
		"!": 1, "! - x": 2, "!)": 1, "C x y": 4, "C D x": 4, "C 1 2": 4, "C () C": 5, "C x !y": 4, "- C x (y)": 6, "[C x y]": 5, "_": 0, "f _": 2, "(_)": 1, "f 'a": 2, "f ->": 2, "f =": 3, "f :: ": 5, "()1)": 3, "f mod": 5, "f ! ": 4,
	} {
		wrong(t, s, at, api.ErrText)
	}
}

// P4.1: patterns.
func TestPatterns(t *testing.T) {
	for s, want := range map[string]string{
		"x":                         "x",
		"_":                         "any",
		"0":                         "0",
		"007":                       "7",
		"- 5":                       "-5",
		"-5":                        "-5",
		"- 0":                       "0",
		"- 4611686018427387903":     "-4611686018427387903",
		`"a\t"`:                     `"a\t"`,
		"true":                      "bool1",
		"false":                     "bool0",
		"()":                        "unit",
		"(x)":                       "x",
		"((_))":                     "any",
		"(x, y)":                    "{tuple x y}",
		"(x, (y, z), _)":            "{tuple x {tuple y z} any}",
		"[]":                        "nil",
		"[x]":                       "{cons x nil}",
		"[x; y; 1]":                 "{cons x {cons y {cons 1 nil}}}",
		"[x :: y; z]":               "{cons {cons x y} {cons z nil}}",
		"x :: y":                    "{cons x y}",
		"x :: y :: z":               "{cons x {cons y z}}",
		"(x :: y) :: z":             "{cons {cons x y} z}",
		"C":                         "{con C}",
		"C x":                       "{con C x}",
		"C _":                       "{con C any}",
		"C - 1":                     "{con C -1}",
		"C 1":                       "{con C 1}",
		"C ()":                      "{con C unit}",
		"C []":                      "{con C nil}",
		"C true":                    "{con C bool1}",
		"C false":                   "{con C bool0}",
		`C "a"`:                     `{con C "a"}`,
		"C D":                       "{con C {con D}}",
		"C (D x)":                   "{con C {con D x}}",
		"C (x, y)":                  "{con C {tuple x y}}",
		"C x :: D y":                "{cons {con C x} {con D y}}",
		"C :: D":                    "{cons {con C} {con D}}",
		"(C x, D)":                  "{tuple {con C x} {con D}}",
		"[C x; D]":                  "{cons {con C x} {cons {con D} nil}}",
		"(1, -1, \"\", true, [()])": `{tuple 1 -1 "" bool1 {cons unit nil}}`,
	} {
		is(t, "match a with "+s+" -> b", "{match a {"+want+" b}}")
	}
	for s, at := range map[string]int{
		"x y": 2, "C x y": 4, "C D x": 4, "1 2": 2, "x ::": 5, ":: x": 0, "(x": 3, "(x,": 4, "(x,)": 3, "(,)": 1, "[x": 3, "[x;": 4, "[x;]": 3, "[;]": 1, "[x, y]": 2, "(x; y)": 2, "- x": 2, "- - 1": 2, "-": 2, "- (1)": 2, "!x": 0, "x + 1": 2, "x | y": 2, "fun": 0, "C - x": 4, "C - - 1": 4, "x :: - y": 7, "'a": 0, "x = y": 2, "(x]": 2, "[x)": 2, ")": 0, "mod": 0, "1 - 1": 2, "- \"1\"": 2, "C !x": 2,
	} {
		wrong(t, "match a with "+s+" -> b", 13+at, api.ErrText)
	}
}

// P4.1: a pattern that has a name twice.
func TestTwice(t *testing.T) {
	for s, at := range map[string]int{
		"match y with (a, a) -> 1":                                       13,
		"match y with a :: a -> 1":                                       13,
		"match y with [a; b; a] -> 1":                                    13,
		"match y with C (b, (a, [a])) -> 1":                              13,
		"match y with b -> 1 | (c, c) -> 2":                              22,
		"match y with b -> 1 | C (c, c) -> 2":                            22,
		"match y with | (a, a) -> 1":                                     15,
		"match y with (a, a) 1":                                          13,
		"match y with (a, a)":                                            13,
		"match y with ((((a, a))))":                                      13,
		"match y with (b, (a, a)) ;":                                     13,
		"(match y with x -> match z with (a, a) -> 1)":                   32,
		"match y with (a, a) -> 1 | (b, b) -> )":                         13,
		"let f a = match a with a -> 1 | a :: a -> 2":                    32,
		"match match x with (a, a) -> b with c -> d":                     19,
		"let x = match y with (a, a) -> 1 in x":                          21,
		"match y with (" + strings.Repeat("_,", 900) + "a, (a, _)) -> 1": 13,
	} {
		wrong(t, s, at, api.ErrTwice)
	}
	for s, at := range map[string]int{
		"match y with (a, a": 18, "match y with (a, a; b)": 18, "match y with a :: a :: ": 23, "match y with ((a, a), ) -> 1": 22, "match y with (a, a]": 18, "match y with (a, a) :: -> 1": 23,
	} {
		wrong(t, s, at, api.ErrText)
	}
	for _, s := range []string{"match y with a -> 1 | a -> 2", "match a with a -> a", "match y with (_, _) -> 1", "match y with (1, 1) -> 1", "match y with (A, A) -> 1", "match y with (a, A a') -> 1", "match y with (a, \"a\") -> 1", "match y with a -> match y with a -> a", "fun a a -> a"} {
		valid(t, s)
	}
}

// P4.1: type declarations.
func TestTypes(t *testing.T) {
	for s, want := range map[string]string{
		"type t = A":                                       "{TYPE 0 t A}",
		"type t = | A":                                     "{TYPE 0 t A}",
		"type t = A | B | C":                               "{TYPE 0 t A B C}",
		"type t = | A | B":                                 "{TYPE 0 t A B}",
		"type t = A of int":                                "{TYPE 0 t {A int}}",
		"type t = A of int | B | C of t":                   "{TYPE 0 t {A int} B {C t}}",
		"type 'a t = A of 'a":                              "{TYPE 1 t {A 1}}",
		"type ('a) t = A of 'a":                            "{TYPE 1 t {A 1}}",
		"type ('a, 'b) t = A of 'b | B of 'a":              "{TYPE 2 t {A 2} {B 1}}",
		"type ('x, 'c, 'b) t = A of 'b * 'x * 'c":          "{TYPE 3 t {A {* 3 1 2}}}",
		"type 'a t = A":                                    "{TYPE 1 t A}",
		"type 'a t = A of 'a t | B of 'a list":             "{TYPE 1 t {A {t 1}} {B {list 1}}}",
		"type t = A of a -> b":                             "{TYPE 0 t {A {-> a b}}}",
		"type t = A of a -> b -> c":                        "{TYPE 0 t {A {-> a {-> b c}}}}",
		"type t = A of (a -> b) -> c":                      "{TYPE 0 t {A {-> {-> a b} c}}}",
		"type t = A of a * b":                              "{TYPE 0 t {A {* a b}}}",
		"type t = A of a * b * c":                          "{TYPE 0 t {A {* a b c}}}",
		"type t = A of (a * b) * c":                        "{TYPE 0 t {A {* {* a b} c}}}",
		"type t = A of a * (b * c)":                        "{TYPE 0 t {A {* a {* b c}}}}",
		"type t = A of a * b -> c * d":                     "{TYPE 0 t {A {-> {* a b} {* c d}}}}",
		"type t = A of a * (b -> c)":                       "{TYPE 0 t {A {* a {-> b c}}}}",
		"type t = A of a list":                             "{TYPE 0 t {A {list a}}}",
		"type t = A of a list ref":                         "{TYPE 0 t {A {ref {list a}}}}",
		"type t = A of a * b list":                         "{TYPE 0 t {A {* a {list b}}}}",
		"type t = A of (a * b) list":                       "{TYPE 0 t {A {list {* a b}}}}",
		"type t = A of (a -> b) list":                      "{TYPE 0 t {A {list {-> a b}}}}",
		"type t = A of (a, b) p":                           "{TYPE 0 t {A {p a b}}}",
		"type t = A of (a, b -> c, d * e) p q":             "{TYPE 0 t {A {q {p a {-> b c} {* d e}}}}}",
		"type t = A of ((a, b) p, c) p":                    "{TYPE 0 t {A {p {p a b} c}}}",
		"type t = A of (a)":                                "{TYPE 0 t {A a}}",
		"type t = A of ((a)) list":                         "{TYPE 0 t {A {list a}}}",
		"type int = A of int ;; type int = A":              "{TYPE 0 int {A int}} {TYPE 0 int A}",
		"type 'a t = A of 'a ;; type 'b t = A of 'b":       "{TYPE 1 t {A 1}} {TYPE 1 t {A 1}}",
		"type ('b, 'a) t = A of ('a, 'b) t -> 'a":          "{TYPE 2 t {A {-> {t 2 1} 2}}}",
		"type t = A of " + strings.Repeat("t*", 500) + "t": "{TYPE 0 t {A {*" + strings.Repeat(" t", 501) + "}}}",
		"type t = A of " + strings.Repeat("t ", 500):       "{TYPE 0 t {A " + strings.Repeat("{t ", 499) + "t" + strings.Repeat("}", 499) + "}}",
	} {
		is(t, s, want)
	}
	for s, at := range map[string]int{
		"type": 4, "type t": 6, "type t =": 8, "type t = |": 10, "type t = a": 9, "type T = A": 5, "type = A": 5, "type t A": 7, "type t = A B": 11, "type t = A |": 12, "type t = A | |": 13, "type t = || A": 9, "type t = A || B": 11,
		"type 'a": 7, "type 'a 'b t = A": 8, "type () t = A": 6, "type ('a t = A": 9, "type ('a,) t = A": 9, "type ('a 'b) t = A": 9, "type (a) t = A": 6, "type ('a, b) t = A": 10, "type ('a)": 9, "type ('a; 'b) t = A": 8, "type 'a, 'b t = A": 7, "type t 'a = A": 7,
		"type t = A of": 13, "type t = A of )": 14, "type t = A of A": 14, "type t = A of a ->": 18, "type t = A of a *": 17, "type t = A of (a": 16, "type t = A of ()": 15, "type t = A of (a, b)": 20, "type t = A of (a, b) * c": 21, "type t = A of (a, b) -> c": 21, "type t = A of ((a, b))": 21, "type t = A of (a,)": 17, "type t = A of 1": 14, "type t = A of a 'b": 16, "type t = A of a (b)": 16, "type t = A of of": 14, "type t = A of a; 1": 15, "type t = A of -> a": 14, "type t = A of * a": 14, "type t = A in 1": 11, "type t = A + 1": 11, "type rec t = A": 5, "type t = A of a = b": 16, "type t := A": 7,
	} {
		wrong(t, s, at, api.ErrText)
	}
}

// P4.1: constructors and variables that a type declaration has already, and variables that it does not have.
func TestTypeNames(t *testing.T) {
	for s, at := range map[string]int{
		"type t = A | A": 13, "type t = A | B | A of": 17, "type t = | A of int | B | A )": 26, "type ('a, 'a) t = A": 10, "type ('a, 'b, 'a": 14, "type ('a, 'b, 'b 'c": 14, "1 ;; type t = A of t | B | B": 27, "type ('a, 'a) t = A | A": 10,
	} {
		wrong(t, s, at, api.ErrTwice)
	}
	for s, at := range map[string]int{
		"type t = A of 'a": 14, "type 'a t = A of 'b": 17, "type ('a, 'b) t = A of 'a * ('b -> 'c) )": 35, "type 'a t = A of 'a ;; type t = A of 'a": 37, "type t = A of 'a 1": 14, "type 'a t = A of 'b | A": 17,
	} {
		wrong(t, s, at, api.ErrNone)
	}
	wrong(t, "type 'a t = A of 'a 'b", 20, api.ErrText)
	wrong(t, "type 'a t = A of ('a 'b", 21, api.ErrText)
	wrong(t, "type 'a t = A ;; type 'b t = B of 'a", 34, api.ErrNone)
	valid(t, "type t = A ;; type t = A")
	valid(t, "type 'a t = A of 'a * 'a -> 'a")
}

// P4.1: the errors of the lexer are first, wherever they are.
func TestLexFirst(t *testing.T) {
	wrong(t, ") ) #", 4, api.ErrText)
	wrong(t, ") 4611686018427387904", 2, api.ErrArg)
	wrong(t, "let "+strings.Repeat("n", 25), 4, api.ErrLong)
	wrong(t, "match y with (a, a) -> \"", 24, api.ErrText)
	wrong(t, strings.Repeat(")", 2001), 0, api.ErrLong)
	wrong(t, strings.Repeat("(", 2000), 16, api.ErrDeep)
	wrong(t, strings.Repeat("(", 1999)+"#", 1999, api.ErrText)
}

// P4.1: Names, also of patterns that Cell doesn't return.
func TestNames(t *testing.T) {
	v := func(s string) api.Pat { return api.Pat{Kind: api.PVar, Text: s} }
	con := func(kind byte, l ...api.Pat) api.Pat { return api.Pat{Kind: kind, Text: "no", Kids: l} }
	for _, c := range []struct {
		p    api.Pat
		want []string
	}{
		{api.Pat{}, nil},
		{api.Pat{Kind: api.PText, Text: "a"}, nil},
		{con(api.PCon), nil},
		{v("a"), []string{"a"}},
		{con(api.PTuple, v("b"), con(api.PCons, v("a"), v("c")), con(api.PCon, v("d"))), []string{"b", "a", "c", "d"}},
		{con(api.PCons, con(api.PCons, v("x"), v("y")), v("x")), []string{"x", "y", "x"}},
		{con(api.PTuple, con(api.PTuple), con(api.PNil), v(""), v("z")), []string{"", "z"}},
	} {
		if got := parse.Names(c.p); !slices.Equal(got, c.want) {
			t.Errorf("Names(%v) = %v, want %v", c.p, got, c.want)
		}
	}
}

// P1: patterns that are nested deeper than a cell's can be.
func TestNamesDeep(t *testing.T) {
	defer debug.SetMaxStack(debug.SetMaxStack(1 << 20))
	p := api.Pat{Kind: api.PVar, Text: "in"}
	for range 100000 {
		p = api.Pat{Kind: api.PCons, Kids: []api.Pat{{Kind: api.PVar, Text: "a"}, p}}
	}
	if got := parse.Names(p); len(got) != 100001 || got[0] != "a" || got[100000] != "in" {
		t.Errorf("%d names", len(got))
	}
}

// The rule about memory, and P2: the same text is parsed to the same, in new memory that nothing else shares.
func TestMemory(t *testing.T) {
	s := "let f x y = (x, [y; C 1], match x with (a, b) :: [] -> a; b | D _ -> f x y) ;; type ('a, 'b) t = A of 'a * ('b, int) t -> 'a list | B ;; if a then b + c else - d"
	a, _, _ := parse.Cell(s)
	b, _, _ := parse.Cell(s)
	c, _, _ := parse.Cell(s)
	if !reflect.DeepEqual(a, b) {
		t.Fatal("the same text is parsed to two things")
	}
	scratch(reflect.ValueOf(a), map[uintptr]bool{}, t)
	if !reflect.DeepEqual(b, c) {
		t.Error("two results share memory")
	}
	p := b[0].E.Kids[0].Kids[0].Kids[2].Pats[0]
	before := tellPat(p)
	l := parse.Names(p)
	l[0] = "other"
	if got := parse.Names(p); tellPat(p) != before || got[0] != "a" {
		t.Error("Names changes its pattern, or shares its result")
	}
}

// scratch overwrites whatever slices hold, with their spare capacity, and asks that no two begin at one place.
func scratch(v reflect.Value, seen map[uintptr]bool, t *testing.T) {
	switch v.Kind() {
	case reflect.Slice:
		if v.Cap() == 0 {
			return
		}
		if seen[v.Pointer()] {
			t.Error("two slices of a result share memory")
		}
		seen[v.Pointer()] = true
		for i := range v.Len() {
			scratch(v.Index(i), seen, t)
		}
		v.Slice(0, v.Cap()).Clear()
	case reflect.Struct:
		for i := range v.NumField() {
			scratch(v.Field(i), seen, t)
		}
	}
}

// P1: any bytes, and any tokens.
func TestAny(t *testing.T) {
	rnd := rand.New(rand.NewSource(4))
	bits := strings.Fields("let rec in fun if then else match with try type of mod true false -> := ;; <> <= :: || && ( ) [ ] , ; | = < + - * / ^ ! _ a b C D 'a 'b 1 2 \"s\" #")
	for range 100000 {
		var b strings.Builder
		for range rnd.Intn(25) {
			b.WriteString(bits[rnd.Intn(len(bits)-1+rnd.Intn(2)*rnd.Intn(2))] + " ")
		}
		s := b.String()
		l, at, e := parse.Cell(s)
		if e == api.OK && at != 0 || at < 0 || at > len(s) || e != api.OK && len(l) != 0 {
			t.Fatalf("Cell(%q) = %v, %d at %d", s, l, e, at)
		}
		for _, d := range l {
			proper(t, s, d)
		}
	}
}
