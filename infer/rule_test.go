package infer_test

import (
	"testing"

	"battledore/infer"
)

const someTypes = "type 'a t = A | B of 'a | C of int * 'a t ;; type ('a, 'b) u = U of 'b -> 'a | V ;; type w = W of w list | X"

// P7.1, the typing rules: what has a type.
func TestRules(t *testing.T) {
	env := known(t, someTypes)
	for s, want := range map[string]string{
		"fun f -> fun x -> f (f x)": "('a -> 'a) -> 'a -> 'a", // the chapter's example

		"1": "int", "\"a\"": "string", "true": "bool", "false": "bool", "()": "unit", "[]": "'a list",

		"fail": "string -> 'a", "itoa": "int -> string", "move": "int -> unit", "not": "bool -> bool", "print": "string -> unit", "ref": "'a -> 'a ref", "size": "string -> int", "turn": "int -> unit",

		"[1]": "int list", "1 :: []": "int list", "[1; 2]": "int list", "[[]]": "'a list list", "[[]; [1]]": "int list list", "[[1]; []]": "int list list", "fun x -> [x]": "'a -> 'a list", "fun x y -> x :: y": "'a -> 'a list -> 'a list",
		"(1, true)": "int * bool", "((), \"\", [])": "unit * string * 'a list", "((1, 2), 3)": "(int * int) * int", "([], [])": "'a list * 'b list",

		"A": "'a t", "B 1": "int t", "B []": "'a list t", "B A": "'a t t", "C (1, A)": "'a t", "C (1, B true)": "bool t", "(A, A)": "'a t * 'b t", "(B 1, B true)": "int t * bool t", "V": "('a, 'b) u", "U itoa": "(string, int) u", "U (fun x -> x)": "('a, 'a) u", "W []": "w", "W [X; W [X]]": "w", "fun x -> B x": "'a -> 'a t",

		"fun x -> x": "'a -> 'a", "fun x -> 1": "'a -> int", "fun x y -> x": "'a -> 'b -> 'a", "fun x y -> y": "'a -> 'b -> 'b", "fun x -> fun x -> x": "'a -> 'b -> 'b", "fun f x -> f x": "('a -> 'b) -> 'a -> 'b", "fun f g x -> f (g x)": "('a -> 'b) -> ('c -> 'a) -> 'c -> 'b", "fun f x y -> f y x": "('a -> 'b -> 'c) -> 'b -> 'a -> 'c", "fun f x -> f x x": "('a -> 'a -> 'b) -> 'a -> 'b", "fun x y z -> x z (y z)": "('a -> 'b -> 'c) -> ('a -> 'b) -> 'a -> 'c",
		"(fun x -> x) 1": "int", "(fun x y -> x) 1": "'a -> int", "itoa (size \"\")": "string", "fail \"a\"": "'a", "(fail \"a\") 1": "'a", "fail \"a\" + 1": "int", "ref fail": "(string -> 'a) ref", "ref []": "'a list ref",

		"let x = 1 in x": "int", "let x = 1 in let x = true in x": "bool", "let x = 1 in (let x = true in x, x)": "bool * int", "let f x = x in f": "'a -> 'a", "let not = 1 in not": "int", "let rec f x = f x in f": "'a -> 'b", "let rec f x = if x = 0 then 1 else f (x - 1) in f": "int -> int", "let rec f x y = f y x in f": "'a -> 'a -> 'b", "let rec x = fun y -> y in x 1": "int",
		"let rec map f l = match l with [] -> [] | a :: b -> f a :: map f b in map": "('a -> 'b) -> 'a list -> 'b list",
		"let id = fun x -> x in (id 1, id \"a\")":                                   "int * string",
		"let f = fun x -> x in let g = fun x -> f (f x) in (g 1, g ())":             "int * unit",

		"if true then 1 else 2": "int", "fun x -> if x then x else x": "bool -> bool", "fun x y -> if true then x else y": "'a -> 'a -> 'a", "if true then [] else [1]": "int list", "if true then [1] else []": "int list",

		"match 1 with x -> x": "int", "match 1 with _ -> true": "bool", "match 1 with 1 -> 2 | -1 -> 3": "int", "match \"\" with \"\" -> 1": "int", "match true with true -> 1 | false -> 2": "int", "match () with () -> 1": "int", "match (1, true) with (x, y) -> (y, x)": "bool * int", "match [1] with [] -> 0 | x :: y -> x": "int", "match [1] with [x; y] -> x | _ :: y -> 1": "int", "match [] with [] -> 1": "int",
		"fun x -> match x with 1 -> 2": "int -> int", "fun x -> match x with \"\" -> 2": "string -> int", "fun x -> match x with true -> 2": "bool -> int", "fun x -> match x with () -> 2": "unit -> int", "fun x -> match x with (a, b, _) -> b": "'a * 'b * 'c -> 'b", "fun x -> match x with [] -> 1": "'a list -> int", "fun x -> match x with a :: b -> (b, a)": "'a list -> 'a list * 'a", "fun x -> match x with [a] -> a": "'a list -> 'a", "fun x -> match x with a -> a": "'a -> 'a", "fun x -> match x with _ -> x": "'a -> 'a", "fun x -> match x with _ -> 1 | 2 -> 3": "int -> int",
		"fun x -> match x with A -> 1": "'a t -> int", "fun x -> match x with A -> 0 | B y -> y + 1 | _ -> 2": "int t -> int", "fun x -> match x with C (a, b) -> b": "'a t -> 'a t", "fun x -> match x with U f -> f": "('a, 'b) u -> 'b -> 'a", "fun x -> match x with W (y :: _) -> y": "w -> w", "fun x -> match x with C (1, B [y]) -> y": "'a list t -> 'a", "match (A, 1) with (B x, y) -> x": "'a", "match A with A -> 1 | B 1 -> 2": "int",
		"fun x -> match x with x -> x + 1": "int -> int", "match 1 with x -> (match true with x -> x, x)": "bool * int", "match 1 with 1 -> [] | 2 -> [1] | _ -> []": "int list",

		"try 1 with e -> size e": "int", "try fail \"\" with e -> e": "string", "fun x -> try x with e -> x": "'a -> 'a", "fun e -> try e + 1 with e -> size e": "int -> int", "try fail \"\" with e -> fail e": "'a",

		"(); 1": "int", "print \"a\"; move 1; turn 2; true": "bool", "fun x -> (x; x)": "unit -> unit", "fail \"\"; 1": "int",

		"1 + 2": "int", "1 - 2": "int", "1 * 2": "int", "1 / 2": "int", "1 mod 2": "int", "-1": "int", "fun x y -> x + y": "int -> int -> int", "fun x -> - x": "int -> int",
		"1 < 2": "bool", "1 <= 2": "bool", "fun x y -> x < y": "int -> int -> bool", "\"\" ^ \"\"": "string", "fun x y -> x ^ y": "string -> string -> string", "true && false": "bool", "true || false": "bool", "fun x y -> x && y || x": "bool -> bool -> bool",
		"1 = 2": "bool", "1 <> 2": "bool", "fun x y -> x = y": "'a -> 'a -> bool", "fun x y -> x <> y": "'a -> 'a -> bool", "(fun x -> x) = (fun x -> 1)": "bool", "[] = []": "bool", "A <> B 1": "bool",
		"fun x y -> x := y": "'a ref -> 'a -> unit", "ref 1 := 2": "unit", "fun x -> x := 1": "int ref -> unit", "fun x -> ref [] := x": "'a list -> unit", "!(ref 1)": "int", "fun x -> !x": "'a ref -> 'a", "fun x -> !(!x) + 1": "int ref ref -> int", "fun x -> x := !x": "'a ref -> unit",
	} {
		isType(t, env, s, want)
	}
}

// P7.1, the typing rules: what has no type.
func TestNoType(t *testing.T) {
	env := known(t, someTypes)
	for _, s := range []string{
		"x", "fun x -> (x, y)", "D", "D 1", "match 1 with D -> 1", "match 1 with D 1 -> 1", "t", "int",

		"[1; true]", "1 :: 2", "1 :: [true]", "true :: [1]", "fun x -> x :: x", "[1] :: [2]",

		"A 1", "B", "A ()", "C", "C 1", "C (1, 2)", "C (true, A)", "C (1, A, 2)", "U", "U 1", "V 1", "W", "W X", "X X", "[B 1; B true]", "C (1, B 1) = B true", "(A) 1", "(B) 1",

		"1 2", "(fun x -> x + 1) true", "itoa true", "itoa 1 2", "size 1", "fail 1", "not 1", "print 1", "move \"\"", "turn true", "ref 1 2", "fun x -> x x", "fun f -> (f f)", "fun f -> f (f, 1)", "fun f -> (f 1, f true)", "fun x y -> (x y, y x)", "(fun f -> (f 1, f true)) (fun x -> x)", "() 1", "(1, 2) 3",

		"let x = x in 1", "let f x = f x in 1", "let x = 1 in y", "let x = 1 true in 1", "let x = 1 in x true", "(let x = 1 in x) + x", "let rec f x = f in 1", "let rec f x = f x x in 1", "let rec f x = f 1 + f true in 1", "let rec f x = 1 in f 1 true", "let rec f x = g x in let rec g x = f x in 1",
		"let x = 1 in let x = true in x + 1",

		"if 1 then 2 else 3", "if true then 1 else true", "if true then 1 else ()", "if () then 1 else 1", "fun x -> if x then x else 1", "fun x -> if true then x else [x]",

		"match 1 with true -> 1", "match 1 with \"\" -> 1", "match 1 with () -> 1", "match 1 with [] -> 1", "match 1 with (1, 2) -> 1", "match 1 with a :: b -> 1", "match true with 1 -> 1", "match \"\" with -1 -> 1", "match (1, 2) with (1, 2, 3) -> 1", "match (1, 2) with (true, 2) -> 1", "match [1] with [true] -> 1", "match [1] with a :: 2 -> 1", "match [1] with true :: a -> 1", "fun x -> match x with a :: a2 -> a = a2",
		"match 1 with 1 -> 1 | _ -> true", "match 1 with 1 -> 1 | true -> 1", "match 1 with x -> x true", "match 1 with x -> y", "(match 1 with x -> x) + x", "match (1, 2) with (x, 1) -> x | (1, y) -> x", "match x with x -> 1",
		"match 1 with A -> 1", "match A with A x -> 1", "match B 1 with B -> 1", "match B 1 with B true -> 1", "match A with W x -> 1", "match B 1 with C (true, _) -> 1", "match A with A () -> 1", "match A with C 1 -> 1", "match B 1 with B x -> x | A -> true",

		"try 1 with e -> e", "try 1 with e -> true", "try e with e -> 1", "(try 1 with e -> size e) + e", "try true with e -> e + 1", "try 1 with e -> size f",

		"1; 2", "true; 1", "fun x -> (x; x + 1)", "(); x", "[]; 1", "(); 1 true",

		"1 + true", "true + 1", "1 - \"\"", "\"\" - 1", "1 * ()", "() * 1", "1 / true", "true / 1", "1 mod true", "true mod 1", "-true", "- \"\"", "fun x -> x + (x = true)",
		"1 < true", "true < 1", "\"\" <= 1", "1 <= \"\"", "\"a\" < \"b\"", "true <= false", "(1 < 2) + 1", "1 ^ \"\"", "\"\" ^ 1", "(\"\" ^ \"\") + 1", "1 && true", "true && 1", "1 || true", "true || 1", "(true && true) + 1",
		"1 = true", "1 <> \"\"", "(1 = 1) + 1", "[] = A", "fun x -> x = [x]", "[1] = [true]", "(1, 2) = (1, 2, 3)", "(fun x -> x + 1) = (fun x -> not x)",
		"1 := 1", "ref 1 := true", "(ref 1 := 1) + 1", "fun x -> x := x", "!1", "!(ref 1) && true", "fun x -> x = !x", "!(fun x -> x)",
	} {
		isType(t, env, s, "")
	}
}

// P7.1: the scheme of a value is generalized.
func TestValues(t *testing.T) {
	env := known(t, someTypes)
	for s, want := range map[string]string{
		"let n = [] in (1 :: n, true :: n)":                                                              "int list * bool list",
		"let f = fun x -> x in (f 1, f true)":                                                            "int * bool",
		"let f x y = x in (f 1 2, f true 3)":                                                             "int * bool",
		"let f = fail in (f \"\" + 1, f \"\" ^ \"\")":                                                    "int * string",
		"let a = A in (a = B 1, a = B true)":                                                             "bool * bool",
		"let a = B [] in (a = B [1], a = B [true])":                                                      "bool * bool",
		"let a = B (fun x -> x) in (a = B not, a = B (fun x -> 1))":                                      "bool * bool",
		"let p = ([], 1) in (p = ([1], 1), p = ([true], 1))":                                             "bool * bool",
		"let p = (\"\", true, (), fun x -> x, []) in match p with (_, _, _, f, n) -> (f 1, true :: n)":   "int * bool list",
		"let l = [[]] in (l = [[1]], l = [[true]])":                                                      "bool * bool",
		"let l = [] :: [[]] in (l = [[1]], l = [[true]])":                                                "bool * bool",
		"let l = C (1, B ([], fun x -> [])) in (l = B ([1], fun x -> []), l = B ([true], fun x -> [2]))": "bool * bool",
		"let rec f x = x in (f 1, f true)":                                                               "int * bool",
		"let rec f x = f x in (f 1 + 1, f true ^ \"\")":                                                  "int * string",
		"let f = ((fun x -> x)) in let g = f in (g 1, g true)":                                           "int * bool",
		"let f = fun x -> ref x in (f 1, f true)":                                                        "int ref * bool ref",
		"let f = fun x -> ref [] in (f 1 = ref [1], f 1 = ref [true])":                                   "bool * bool",

		// what is no value
		"let r = ref [] in (r := [1]; r := [true])":                                      "",
		"let r = ref [] in (r := [1]; r := [2])":                                         "unit",
		"let r = ref [] in r":                                                            "'a list ref",
		"let r = ref [] in fun x -> r := x":                                              "'a list -> unit",
		"let f = (fun x -> x) (fun x -> x) in (f 1, f true)":                             "",
		"let f = (fun x -> x) (fun x -> x) in (f 1, f 2)":                                "int * int",
		"let f = (fun x -> x) (fun x -> x) in f":                                         "'a -> 'a",
		"let n = if true then [] else [] in (1 :: n, true :: n)":                         "",
		"let n = if true then [] else [] in (1 :: n, 2 :: n)":                            "int list * int list",
		"let n = let x = 1 in [] in (1 :: n, true :: n)":                                 "",
		"let n = match 1 with _ -> [] in (1 :: n, true :: n)":                            "",
		"let n = try [] with e -> [] in (1 :: n, true :: n)":                             "",
		"let n = ((); []) in (1 :: n, true :: n)":                                        "",
		"let n = !(ref []) in (1 :: n, true :: n)":                                       "",
		"let n = !(ref []) in (1 :: n, 2 :: n)":                                          "int list * int list",
		"let a = B (ref []) in (a = B (ref [1]), a = B (ref [true]))":                    "",
		"let a = B (ref []) in (a = B (ref [1]), a = B (ref [2]))":                       "bool * bool",
		"let p = (1, ref []) in (p = (1, ref [1]), p = (1, ref [true]))":                 "",
		"let p = (ref [], 1) in (p = (ref [1], 1), p = (ref [true], 1))":                 "",
		"let l = [ref []] in (l = [ref [1]], l = [ref [true]])":                          "",
		"let l = [] :: !(ref []) in (l = [[1]], l = [[true]])":                           "",
		"let a = C (1, B ((), ref [])) in (a = B ((), ref [1]), a = B ((), ref [true]))": "",
		"let p = ([], 1 + 1) in (p = ([1], 1), p = ([true], 1))":                         "",
		"let p = ([], -1) in (p = ([1], 1), p = ([true], 1))":                            "",

		// DLet and DExpr
		"let id x = x":                                "'a -> 'a",
		"let n = []":                                  "'a list",
		"let f = fail":                                "string -> 'a",
		"let a = C (1, B ([], fun x -> x))":           "('a list * ('b -> 'b)) t",
		"let l = [[]; []]":                            "'a list list",
		"let a = A":                                   "'a t",
		"let r = ref []":                              "",
		"ref []":                                      "'a list ref",
		"let r = ref [1]":                             "int list ref",
		"let x = fail \"\"":                           "",
		"fail \"\"":                                   "'a",
		"let f = (fun x -> x) (fun x -> x)":           "",
		"(fun x -> x) (fun x -> x)":                   "'a -> 'a",
		"let f = let y = 1 in fun x -> x":             "",
		"let f = let y = 1 in fun x -> x + y":         "int -> int",
		"let f = if true then [] else []":             "",
		"let f = B (ref [])":                          "",
		"let f = (1, [ref []])":                       "",
		"let f = match 1 with _ -> []":                "",
		"let f = try [] with e -> []":                 "",
		"let f = ((); [])":                            "",
		"let f = !(ref [])":                           "",
		"let x = -1":                                  "int",
		"let x = 1 + 1":                               "int",
		"let rec f x = f x":                           "'a -> 'b",
		"let id x = x ;; (id 1, id true)":             "int * bool",
		"let n = [] ;; (1 :: n, true :: n)":           "int list * bool list",
		"let x = 1 ;; let x = true ;; x":              "bool",
		"let x = 1 ;; let x = [x] ;; x":               "int list",
		"let x = 1 ;; let f y = x ;; let x = () ;; f": "'a -> int",
		"let not x = x + 1 ;; not":                    "int -> int",
		"let x = 1 ;; fun x -> x":                     "'a -> 'a",
		"let f x = f x":                               "",
		"let x = 1 ;; let f x = x && true ;; f x":     "",
	} {
		isType(t, env, s, want)
	}
}

// P7.1: a scheme isn't generalized over what occurs in the type of a local name.
func TestLocalNames(t *testing.T) {
	env := known(t, someTypes)
	for s, want := range map[string]string{
		"fun z -> let f = fun x -> z in (f 1, f true)":                                                          "'a -> 'a * 'a",
		"fun z -> let f = fun x -> z in (f 1 + 1, f 1 ^ \"\")":                                                  "",
		"fun z -> let f = fun x -> (x, z) in (f 1, f true)":                                                     "'a -> (int * 'a) * (bool * 'a)",
		"fun z -> let f = fun x -> (x, z) in (f 1 = (1, 1), f true = (true, ()))":                               "",
		"fun z -> let f = z in (f 1, f 2)":                                                                      "(int -> 'a) -> 'a * 'a",
		"fun z -> let f = z in (f 1, f true)":                                                                   "",
		"fun z -> let f = z in let g = f in (g 1, g true)":                                                      "",
		"fun z -> let f = (z, []) in (f = (1, [1]), f = (1, [true]))":                                           "int -> bool * bool",
		"fun z -> let f = (z, []) in (f = (1, [1]), f = (true, [1]))":                                           "",
		"fun z -> let f = [z] in let g = fun x -> f in (g 1, g true)":                                           "'a -> 'a list * 'a list",
		"fun z -> let f = [z] in let g = fun x -> f in (g 1 = [1], g 1 = [true])":                               "",
		"fun z -> let f = fun x -> if true then x else z in (f 1, f 2)":                                         "int -> int * int",
		"fun z -> let f = fun x -> if true then x else z in (f 1, f true)":                                      "",
		"fun z -> let f = fun x -> z x in (f 1, f true)":                                                        "",
		"fun z -> let f = fun x -> z [x] in (f 1, f 2)":                                                         "(int list -> 'a) -> 'a * 'a",
		"fun z -> let f = fun x -> z [x] in (f 1, f true)":                                                      "",
		"fun z -> let f = fun x y -> (z x, y) in (f 1 2, f 1 true)":                                             "(int -> 'a) -> ('a * int) * ('a * bool)",
		"fun z -> let f = fun x y -> (z x, y) in (f 1 2, f true 2)":                                             "",
		"fun z -> let f = fun x -> let g = fun y -> (x, y, z) in (g 1, g true) in (f 1, f true)":                "'a -> ((int * int * 'a) * (int * bool * 'a)) * ((bool * int * 'a) * (bool * bool * 'a))",
		"fun z -> let f = fun x -> let g = fun y -> x in (g 1 + 1, g 1 ^ \"\") in f":                            "",
		"fun z -> let f = fun x -> let g = fun y -> z in g x in (f 1, f true)":                                  "'a -> 'a * 'a",
		"fun z -> let f = fun x -> let g = fun y -> z in g x in (f 1 + 1, f true ^ \"\")":                       "",
		"fun z -> let f = fun x -> let g = fun y -> z y in g x in (f 1, f true)":                                "",
		"fun z -> let f = fun x -> let g = fun y -> if z = [x] then y else y in g x in (f 1, f true)":           "",
		"fun z -> let f = fun x -> let g = fun y -> if z = [1] then y else y in (g 1, g true) in (f 1, f true)": "int list -> (int * bool) * (int * bool)",

		// connected ahead of it
		"fun z y -> if z = [y] then let f = fun x -> y in (f 1, f true) else fail \"\"":                           "'a list -> 'a -> 'a * 'a",
		"fun z y -> if z = [y] then let f = fun x -> y in (f 1 + 1, f true ^ \"\") else fail \"\"":                "",
		"fun z -> if z = ref [] then let f = fun x -> !z in (f 1 = [1], f 1 = [true]) else fail \"\"":             "",
		"fun z -> match z with (a, b) -> let f = fun x -> a in (f 1, f true, b)":                                  "'a * 'b -> 'a * 'a * 'b",
		"fun z -> match z with (a, b) -> let f = fun x -> a in (f 1 + 1, f true ^ \"\")":                          "",
		"fun z -> match z with (a, b) -> let f = fun x -> (match z with (c, d) -> d) in (f 1 + 1, f true ^ \"\")": "",
		"fun z -> match z with a :: b -> let f = fun x -> b in (1 :: f 1, true :: f 1)":                           "",
		"fun z -> match [] with a :: b -> let f = fun x -> b in (1 :: f 1, 2 :: f 1)":                             "'a -> int list * int list",
		"match [] with b -> let f = fun x -> b in (1 :: f 1, true :: f 1)":                                        "",
		"match [] with b -> (1 :: b, true :: b)":                                                                  "",
		"try 1 with e -> let f = fun x -> e in (size (f 1) + size (f true))":                                      "int",

		// names that are bound to no value are local names too
		"let r = ref [] in let f = fun x -> r in (f 1 := [1]; f true := [2])":    "unit",
		"let r = ref [] in let f = fun x -> r in (f 1 := [1]; f true := [true])": "",
		"let r = ref [] in let f = fun x -> r := [x] in (f 1; f 2)":              "unit",
		"let r = ref [] in let f = fun x -> r := [x] in (f 1; f true)":           "",
		"let r = ref [] in let f = r in (f := [1]; f := [true])":                 "",
		"fun z -> let r = ref z in let f = fun x -> r := x in (f 1; f true)":     "",
		"let r = ref (fun x -> x) in let f = fun x -> !r x in (f 1, f true)":     "",

		// the name of what is recursive is local in it, and no longer in what follows
		"let rec f x = let g = fun y -> f y in (g 1; g 2) in f":                        "int -> unit",
		"let rec f x = let g = fun y -> f y in (g 1; g true) in f":                     "",
		"let rec f x = let g = f in (g 1; g true) in f":                                "",
		"let rec f x = let g = fun y -> (f x; y) in (g (); g 1; ()) in f":              "",
		"let rec f x = let g = fun y -> (f x; y) in (g (); g (); ()) in (f 1; f true)": "unit",

		// names that are no longer there
		"(fun z -> z) []; let f = fun x -> x in (f 1, f true)":                        "",
		"((fun z -> ()) []; let f = fun x -> x in (f 1, f true))":                     "int * bool",
		"(let r = ref [] in r := []); let f = fun x -> [] in (1 :: f 1, true :: f 1)": "int list * bool list",

		// at the beginning of a declaration there are none
		"let f = fun x -> x ;; let g = let h = f in h (fun x -> x) in (g 1, g 2)": "int * int",
	} {
		isType(t, env, s, want)
	}
}

// P7.1: what the declarations of a cell return.
func TestBase(t *testing.T) {
	env := infer.Base()
	want := []string{"fail : string -> 'a", "itoa : int -> string", "move : int -> unit", "not : bool -> bool", "print : string -> unit", "ref : 'a -> 'a ref", "size : string -> int", "turn : int -> unit"}
	if len(env.Vals) != len(want) || len(infer.Prims) != len(want) || len(env.Cons) != 0 {
		t.Fatalf("Base = %v", env)
	}
	for i, v := range env.Vals {
		if got := v.Name + " : " + spelt(t, v.S); got != want[i] || v.Name != infer.Prims[i] {
			t.Errorf("%s, not %s; %s", got, want[i], infer.Prims[i])
		}
	}
	arity := map[string]int{"bool": 0, "int": 0, "list": 1, "ref": 1, "string": 0, "unit": 0}
	if len(env.Types) != len(arity) || len(env.Arity) != len(arity) {
		t.Fatalf("Base = %v", env)
	}
	for i, s := range []string{"bool", "int", "list", "ref", "string", "unit"} {
		if env.Types[i] != s || env.Arity[i] != arity[s] {
			t.Errorf("the type %s (%d)", env.Types[i], env.Arity[i])
		}
	}
}
