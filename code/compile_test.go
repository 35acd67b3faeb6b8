package code_test

import (
	"strconv"
	"strings"
	"testing"

	"battledore/api"
	"battledore/code"
	"battledore/infer"
)

const someTypes = "type 'a tree = Leaf | Node of 'a tree * 'a * 'a tree ;; type u = A | B of int | C of string | D"

// before: functions that stand before those that are compiled.
func before(n int) []code.Fun {
	var l []code.Fun
	for range n {
		l = append(l, code.Fun{Code: []code.Ins{{Op: code.Int}, {Op: code.Ret}}})
	}
	return l
}

// prims: the globals that are predefined.
func prims() []value {
	var l []value
	for i := range infer.Prims {
		l = append(l, prim(i))
	}
	return l
}

// compiled: functions, the last ones being those of an expression, which must be valid.
func compiled(t *testing.T, n code.Names, self string, x api.Expr, first int) []code.Fun {
	t.Helper()
	l, e := code.Compile(n, self, x, first)
	if e != api.OK || len(l) == 0 {
		t.Fatalf("%d functions, %d", len(l), e)
	}
	all := append(before(first), l...)
	if !code.Check(all, len(n.Globs)) || l[len(l)-1].Caps != 0 {
		t.Fatalf("not valid: %v", l)
	}
	return all
}

// result: what an expression comes to, compiled.
func result(t *testing.T, n code.Names, self string, x api.Expr, fuel int) (string, *effects) {
	t.Helper()
	all := compiled(t, n, self, x, 3)
	return executed(fuel, func(e *effects) value {
		m := &machine{e, all, prims()}
		return m.run(&closure{n: int64(len(all) - 1)}, int64(77))
	})
}

// P8.1: what expressions come to: the value, or the exception; what was printed; how many of 100 steps are left.
func TestResults(t *testing.T) {
	names := namesOf(known(t, someTypes))
	for s, want := range map[string]string{
		"1":                                "1; ; 100",
		"4611686018427387903":              "4611686018427387903; ; 100",
		"- 5":                              "-5; ; 100",
		"true":                             "1; ; 100",
		"false":                            "0; ; 100",
		"()":                               "0; ; 100",
		"\"a\\nb\"":                        "\"a\\nb\"; ; 100",
		"(1, \"a\", ())":                   "(1, \"a\", 0); ; 100",
		"[]":                               "0; ; 100",
		"[1; 2]":                           "(1, (2, 0)); ; 100",
		"1 :: 2 :: []":                     "(1, (2, 0)); ; 100",
		"Leaf":                             "0; ; 100",
		"A":                                "2; ; 100",
		"D":                                "5; ; 100",
		"B 7":                              "#3 7; ; 100",
		"Node (Leaf, 1, Leaf)":             "#1 (0, 1, 0); ; 100",
		"size":                             "<fun>; ; 100",
		"fun x -> x":                       "<fun>; ; 100",
		"1 + 2":                            "3; ; 100",
		"1 - 2":                            "-1; ; 100",
		"2 * 3":                            "6; ; 100",
		"-7 / 2":                           "-3; ; 100",
		"-7 mod 2":                         "-1; ; 100",
		"1 / 0":                            "raised div; ; 100",
		"1 mod 0":                          "raised div; ; 100",
		"1 < 2":                            "1; ; 100",
		"2 < 2":                            "0; ; 100",
		"2 <= 2":                           "1; ; 100",
		"3 <= 2":                           "0; ; 100",
		"1 = 1":                            "1; ; 99",
		"1 <> 1":                           "0; ; 99",
		"[1] = [2]":                        "0; ; 98",
		"B 1 = B 1":                        "1; ; 97",
		"ref 1 = ref 1":                    "0; ; 97",
		"size = size":                      "raised equal; ; 99",
		"\"a\" ^ \"b\"":                    "\"ab\"; ; 100",
		"4611686018427387903 + 1":          "-4611686018427387904; ; 100",
		"let r = ref 1 in r := !r + 1; !r": "2; ; 99",
		"true && false":                    "0; ; 100",
		"true && true":                     "1; ; 100",
		"false && (print \"x\"; true)":     "0; ; 100",
		"true && (print \"x\"; true)":      "1; x; 99",
		"true || (print \"x\"; true)":      "1; ; 100",
		"false || (print \"x\"; true)":     "1; x; 99",
		"false || false":                   "0; ; 100",
		"if true then print \"a\" else print \"b\"":                                                        "0; a; 99",
		"if false then print \"a\" else print \"b\"":                                                       "0; b; 99",
		"(print \"a\"; size) (print \"b\"; \"c\")":                                                         "1; ab; 97",
		"(print \"a\"; 1) + (print \"b\"; 2)":                                                              "3; ab; 98",
		"(print \"a\"; 1) = (print \"b\"; 2)":                                                              "0; ab; 97",
		"(print \"a\"; 1) :: (print \"b\"; [])":                                                            "(1, 0); ab; 98",
		"((print \"a\"; 1), (print \"b\"; 2), (print \"c\"; 3))":                                           "(1, 2, 3); abc; 97",
		"(print \"a\"; ref 1) := (print \"b\"; 2)":                                                         "0; ab; 97",
		"let x = print \"a\" in print \"b\"; x":                                                            "0; ab; 98",
		"let x = 1 in let y = 2 in let x = x + y in (x, y)":                                                "(3, 2); ; 100",
		"let f = fun x -> fun y -> x - y in f 5 3":                                                         "2; ; 98",
		"let f x y z = (x, y, z) in let g = f 1 in (g 2 3, g 4 5)":                                         "((1, 2, 3), (1, 4, 5)); ; 95",
		"let x = 1 in let f y = x + y in let x = 10 in f x":                                                "11; ; 99",
		"let f x = x + 1 in let f x = f (f x) in f 1":                                                      "3; ; 97",
		"let rec f x = if x = 0 then 1 else x * f (x - 1) in f 5":                                          "120; ; 88",
		"let rec f x y = if x = 0 then y else f (x - 1) (y + x) in f 3 0":                                  "6; ; 88",
		"let rec f f = f in f 1":                                                                           "1; ; 99",
		"let rec size x = if x = 0 then 5 else size (x - 1) in size 2":                                     "5; ; 94",
		"let size = 4 in size":                                                                             "4; ; 100",
		"(fun size -> size) 3":                                                                             "3; ; 99",
		"match 1 with 2 -> 3":                                                                              "raised match; ; 100",
		"match 1 with 2 -> 3 | 1 -> 4 | _ -> 5":                                                            "4; ; 100",
		"match -1 with 1 -> 3 | -1 -> 4":                                                                   "4; ; 100",
		"match 7 with x -> x | _ -> 0":                                                                     "7; ; 100",
		"match \"b\" with \"a\" -> 1 | \"b\" -> 2 | _ -> 3":                                                "2; ; 100",
		"match true with false -> 1 | true -> 2":                                                           "2; ; 100",
		"match () with () -> 1":                                                                            "1; ; 100",
		"match ((), 2) with ((), x) -> x":                                                                  "2; ; 100",
		"match [] with a :: b -> 1 | [] -> 2":                                                              "2; ; 100",
		"match [1; 2] with [] -> 0 | [x] -> x | [x; y] -> x - y | _ -> 9":                                  "-1; ; 100",
		"match [1; 2; 3] with [] -> 0 | [x] -> x | [x; y] -> x - y | x :: y :: z -> 9":                     "9; ; 100",
		"match (1, (2, [3; 4])) with (_, (1, _)) -> (0, 0, 0, []) | (a, (b, c :: d)) -> (a, b, c, d)":      "(1, 2, 3, (4, 0)); ; 100",
		"match Leaf with Node _ -> 1 | Leaf -> 2":                                                          "2; ; 100",
		"match Node (Leaf, 5, Leaf) with Leaf -> 0 | Node (Leaf, x, Node _) -> 1 | Node (_, x, Leaf) -> x": "5; ; 100",
		"match [A; B 1; C \"x\"; D] with [B _; _; _; _] -> 1 | [A; B 2; _; _] -> 2 | [A; B 1; C \"y\"; _] -> 3 | [A; B x; C y; D] -> x": "1; ; 100",
		"let x = 1 in match (2, 3) with (x, 4) -> x | (y, z) -> x + z":                                                                  "4; ; 100",
		"let x = 5 in (match 1 with x -> x) + x":                                                                                        "6; ; 100",
		"(match [1] with [2] -> 5 | x :: l -> (match l with [] -> x | _ -> 7)) + 1":                                                     "2; ; 100",
		"let f l = match l with x :: y :: z -> fun a -> (x, y, z, a) in f [1; 2; 3] 4":                                                  "(1, 2, (3, 0), 4); ; 98",
		"try 1 with e -> 2":                                                 "1; ; 100",
		"try fail \"a\" with e -> e ^ \"b\"":                                "\"ab\"; ; 99",
		"1 + (try 1 / 0 with e -> size e)":                                  "4; ; 99",
		"try (try fail \"a\" with e -> fail (e ^ \"b\")) with e -> e":       "\"ab\"; ; 98",
		"try (match 1 with 2 -> \"\") with e -> e":                          "\"match\"; ; 100",
		"(try 1 with e -> 2) / 0":                                           "raised div; ; 100",
		"let x = 4 in (1, (try (2, x, fail \"a\") with e -> (x, x, e)), x)": "(1, (4, 4, \"a\"), 4); ; 99",
		"try (fun x -> fail \"a\") with e -> fun x -> 2":                    "<fun>; ; 100",
		"(try (fun x -> fail \"a\") with e -> fun x -> 2) 1":                "raised a; ; 98",
		"let e = \"o\" in (try fail \"a\" with e -> print e; e) ^ e":        "\"ao\"; a; 98",
		"print \"a\"; print \"b\"; 3":                                       "3; ab; 98",
		"fail \"x\"; 1":                                                     "raised x; ; 99",
		"let rec f x = f x in f 1":                                          "spent; ; 0",
		"itoa 12 ^ itoa (-3)":                                               "\"12-3\"; ; 98",
		"not true":                                                          "0; ; 99",
		"move 3; turn 1; print \".\"":                                       "0; move3turn1.; 97",
	} {
		l := parsed(t, s)
		if _, _, e := infer.Cell(known(t, someTypes), l); e != api.OK {
			t.Fatalf("%s: %d", s, e)
		}
		if got, _ := result(t, names, "", l[0].E, 100); got != want {
			t.Errorf("%s: %s, not %s", s, got, want)
		}
	}
}

// P8.1: with a name of its own an expression refers to itself, whatever else has that name.
func TestSelf(t *testing.T) {
	names := namesOf(infer.Base())
	names.Globs = append(names.Globs, "f")
	for s, want := range map[string]string{
		"let rec f x = if x = 0 then 1 else x * f (x - 1)":                  "24; ; 90",
		"let rec f x = if x = 0 then 1 else (fun y -> y * f (y - 1)) x":     "24; ; 86",
		"let rec f x = let g y = f in if x = 0 then 1 else g 0 (x - 1) + 1": "5; ; 86",
		"let rec f f = f + 1":                                                          "5; ; 99",
		"let rec size x = if x = 0 then 7 else size (x - 1)":                           "7; ; 90",
		"let rec f x = match x with 0 -> 3 | f -> f + 1":                               "5; ; 99",
		"let rec f x = let rec g y = if y = 0 then 9 else f (y - 1) in g x":            "9; ; 85",
		"let rec f x = let f y = y + 1 in f x":                                         "5; ; 98",
		"let rec f x = (let f y = y + 1 in f 0) + (if x = 0 then 0 else f (x - 1))":    "5; ; 85",
		"let rec f x = try if x = 0 then fail \"ab\" else f (x - 1) with f -> size f":  "2; ; 88",
		"let rec f x = if x = 0 then 0 else let g = (fun f -> f) in g (1 + f (x - 1))": "4; ; 86",
	} {
		d := parsed(t, s)[0]
		all := compiled(t, names, d.Text, d.E, 3)
		got, _ := executed(100, func(e *effects) value {
			m := &machine{e, all, append(prims(), raised("the global f"))}
			f := m.run(&closure{n: int64(len(all) - 1)}, int64(0))
			m.step()
			return m.apply(f, int64(4))
		})
		if got != want {
			t.Errorf("%s: %s, not %s", s, got, want)
		}
	}
	d := parsed(t, "let f = fun x -> f")[0]
	all := compiled(t, names, "", d.E, 3)
	got, _ := executed(100, func(e *effects) value {
		m := &machine{e, all, append(prims(), "the global f")}
		return m.apply(m.run(&closure{n: int64(len(all) - 1)}, int64(0)), int64(4))
	})
	if got != "\"the global f\"; ; 100" {
		t.Errorf("without a name of its own: %s", got)
	}
}

// P8.1: a name refers to the last global with it, a constructor to the one that has its name, by their indexes.
func TestNames(t *testing.T) {
	n := code.Names{Globs: []string{"a", "b", "a", "c", "b"}, Cons: []string{"A", "B", "C"}}
	globs := []value{int64(10), int64(11), int64(12), int64(13), int64(14)}
	for s, want := range map[string]string{
		"(a, b, c)":                                     "(12, 14, 13); ; 100",
		"(A, B, C)":                                     "(0, 1, 2); ; 100",
		"(A 1, B 2, C 3)":                               "(#0 1, #1 2, #2 3); ; 100",
		"let b = a in (fun c -> (a, b, c)) b":           "(12, 12, 12); ; 99",
		"let f = fun x -> a + b in f 1":                 "26; ; 99",
		"match C with A -> a | B -> b | C -> c":         "13; ; 100",
		"match B 5 with A x -> a | C x -> b | B x -> x": "5; ; 100",
	} {
		all := compiled(t, n, "", parsed(t, s)[0].E, 0)
		got, _ := executed(100, func(e *effects) value {
			m := &machine{e, all, globs}
			return m.run(&closure{n: int64(len(all) - 1)}, int64(0))
		})
		if got != want {
			t.Errorf("%s: %s, not %s", s, got, want)
		}
		if l, _ := code.Compile(n, "", parsed(t, s)[0].E, 0); strings.Contains(s, "c)") && code.Check(l, 2) {
			t.Errorf("%s: valid with two globals", s)
		}
	}
}

// P8.1: the functions are numbered from first on.
func TestFirst(t *testing.T) {
	names := namesOf(known(t, someTypes))
	x := parsed(t, "let f x y = (fun z -> (x, y, z)) x in f (fun a -> a) (fun b -> b) ; ()")[0].E
	for _, first := range []int{0, 1, 2, 50, 3000} {
		compiled(t, names, "", x, first)
	}
	l, _ := code.Compile(names, "", x, 7)
	if code.Check(l, len(names.Globs)) || code.Check(append(before(6), l...), len(names.Globs)) {
		t.Error("functions numbered from 7 on are valid elsewhere")
	}
}

// P8.1: what doesn't exist: names, constructors, wherever they are; also those that were bound elsewhere.
func TestNone(t *testing.T) {
	n := code.Names{Globs: []string{"a", "size"}, Cons: []string{"A"}}
	for _, s := range []string{
		"b", "B", "B 1", "A b", "a b", "b a", "[b]", "(a, b)", "fun x -> b", "fun x -> fun y -> z", "let x = b in a", "let x = a in b", "let x = x in a", "if b then a else a", "if a then b else a", "if a then a else b",
		"match b with _ -> a", "match a with _ -> b", "match a with _ -> a | _ -> b", "match a with B -> a", "match a with B _ -> a", "match a with _ -> a | (1, [A; B]) -> a", "match a with A B -> a",
		"try b with e -> a", "try a with e -> b", "b; a", "a; b", "a + b", "b + a", "a && b", "b || a", "- b", "! b", "true || b", "if true then 1 else b",
		"(let x = 1 in x) + x", "(fun x -> x) x", "(match a with x -> x) + x", "match a with x -> 1 | y -> x", "(try a with e -> e) ^ e", "try e with e -> a", "(let rec f x = f x in f) f", "match x with x -> 1",
		"let f = fun x -> f x in a", "let rec f x = (fun y -> y) y in a", "fun x -> (fun y -> x) y", "let a = 1 in fun x -> (let z = a in z) + z",
	} {
		l, e := code.Compile(n, "", parsed(t, s)[0].E, 3)
		if e != api.ErrNone || len(l) != 0 {
			t.Errorf("%s: %d functions, %d", s, len(l), e)
		}
	}
	f := parsed(t, "fun x -> f x")[0].E
	if l, e := code.Compile(n, "g", f, 0); e != api.ErrNone || len(l) != 0 {
		t.Errorf("f, named g: %d functions, %d", len(l), e)
	}
	if _, e := code.Compile(n, "f", f, 0); e != api.OK {
		t.Errorf("f, named f: %d", e)
	}
	if l, e := code.Compile(code.Names{}, "", api.Expr{Kind: api.EVar}, 0); e != api.ErrNone || len(l) != 0 {
		t.Errorf("no name: %d functions, %d", len(l), e)
	}
}

// P8.1: constructors beyond the numbers that an instruction may have.
func TestManyConstructors(t *testing.T) {
	var n code.Names
	for i := range 250000 {
		n.Cons = append(n.Cons, "K"+strconv.Itoa(i))
	}
	for _, i := range []int{0, 99999, 100000, 100001, 200001, 249998} {
		a, b := "K"+strconv.Itoa(i), "K"+strconv.Itoa(i+1)
		s := "let f x = match x with " + a + " 1 -> 1 | " + b + " 1 -> 2 | " + a + " x -> 3 | " + b + " x -> 4 | " + a + " -> 5 | " + b + " -> 6 in [f (" + a + " 1); f (" + b + " 1); f (" + a + " 2); f (" + b + " 2); f " + a + "; f " + b + "]"
		got, _ := result(t, n, "", parsed(t, s)[0].E, 100)
		if want := "(1, (2, (3, (4, (5, (6, 0)))))); ; 94"; got != want {
			t.Errorf("%s: %s", s, got)
		}
	}
	for i, want := range map[int]int64{0: 0, 7: 7, 100000: 100000, 100001: 0, 100002: 1, 200002: 0} {
		if got := code.Number(i); got != want {
			t.Errorf("the number of %d: %d", i, got)
		}
	}
}
