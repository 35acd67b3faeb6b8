package infer_test

import (
	"strconv"
	"strings"
	"testing"

	"battledore/api"
	"battledore/infer"
	"battledore/parse"
	"battledore/print"
	"battledore/types"
)

// P7.1, Great: each text has a type where @ is a tuple with a type of as many parts as it says, and none where @ has a part more.
func TestGreat(t *testing.T) {
	env := known(t, "type 'a t = A | B of 'a ;; let any = fun x -> fail \"\" ;; let dup = fun x -> (x, x) ;; let id = fun x -> x")
	for s, most := range map[string]int{
		// bound by let
		"@":                             100,
		"let x = @":                     100,
		"let x = [@]":                   99,
		"[[@]]":                         98,
		"let x = @ in 1":                100,
		"let x = @ in x":                100,
		"let x = [@] in 1":              99,
		"let x = (1, @) in 1":           98,
		"let x = id @ in 1":             100,
		"let f = fun x -> @ in 1":       98,
		"let f = fun x -> (x, @) in 1":  96,
		"let rec f = fun x -> @ in 1":   98,
		"let rec f x = @":               98,
		"let f x = x = @":               98,
		"fun x -> x = @":                98,
		"fun y -> let x = @ in 1":       100,
		"(let x = 1 in @) = any 1":      1000,
		"let x = (let y = 1 in @) in 1": 100,
		"let x = (let y = @ in 1)":      100,

		// what is matched
		"match @ with _ -> 1":                           100,
		"match @ with x -> 1":                           100,
		"match any 1 with x -> x = @":                   100,
		"match [@] with x :: _ -> 1":                    99,
		"match (@, 1) with (x, _) -> 1":                 98,
		"match 1 with _ -> @":                           100,
		"(match 1 with _ -> @) = any 1":                 1000,
		"let f x = match x with y -> x = @":             98,
		"(fun x -> match x with y -> x = @, 1) = any 1": 100,

		// the arguments of a call
		"any @":                             100,
		"any 1 @":                           100,
		"any @ 1 + 1":                       100,
		"any 1 @ 1 + 1":                     100,
		"any 1 1 @ + 1":                     100,
		"any [@]":                           99,
		"(any 1) (1, @)":                    98,
		"any (fun x -> @)":                  98,
		"any (any 1) (any @)":               100,
		"any (ref @)":                       99,
		"dup @ = any 1":                     100,
		"(id @; 1)":                         -1, // no unit
		"(fun x -> 1) @":                    100,
		"(fun x -> x = @) = any 1":          1000,
		"(fun x -> @) 1 = any 1":            1000,
		"(fun f -> f @) = any 1":            100,
		"(fun x f -> f x && x = @) = any 1": 100, // f's argument, in the end
		"not (1 = 1 && @ = any 1)":          1000,

		// what isn't asked: operands, the argument of a constructor, of tuples, lists and functions the parts
		"@ = @":                               1000,
		"@ = any 1 && @ <> any 1":             1000,
		"B @ = any 1":                         1000,
		"B @":                                 99,
		"any (B @)":                           99,
		"let x = B @ in 1":                    99,
		"match B @ with _ -> 1":               99,
		"(1, @) = any 1":                      1000,
		"[@] = any 1":                         1000,
		"(fun x y -> @) = any 1":              1000,
		"(if true then @ else any 1) = any 1": 1000,
		"(try @ with e -> any 1) = any 1":     1000,
		"(try any 1 with e -> @) = any 1":     1000,
		"(any 1; @) = any 1":                  1000,
		"(any 1 := @); 1":                     1000,
		"!(any 1) = @":                        1000,
		"(fun x -> !x = @) = any 1":           1000,
		"(fun x y z -> x = (y, z) && y = @ && z = @ && x = x) = any 1": 900,

		// in the end: only then it is known what it is
		"(fun x -> let y = x in x = @) = any 1":                                 100,
		"(fun x -> let y = [x] in x = @) = any 1":                               99,
		"(fun x -> let y = fun z -> x in x = @) = any 1":                        98,
		"(fun x -> let y = id x in x = @) = any 1":                              100,
		"(fun x -> match [x] with y -> x = @) = any 1":                          99,
		"(fun x -> (any [x] || true) && x = @) = any 1":                         99,
		"(fun x y -> let z = x in x = (y, y) && y = (1, @)) = any 1":            -1, // 3 + 2 * (2 + @)
		"(fun x y -> let z = x in x = (y, y) && y = [@]) = any 1":               48,
		"let r = ref [] in r := [@]":                                            98,
		"let f = (fun x -> x) (fun x -> x) in f 1 = 1 && any @":                 100,
		"let x = any 1 in x = @":                                                100,
		"(let x = any 1 in 1) + (match any 1 with y -> if y = @ then 1 else 2)": 100,

		// within the scheme of a name: as it is there
		"let f = fun x -> (let y = (x, x) in 1) in f @":                              100,
		"(fun x -> (let y = (x, x) in 1)) @":                                         -1,
		"(fun x -> (let y = [x] in 1)) @":                                            99,
		"let f = fun x -> (match (x, x) with _ -> 1) in f @":                         100,
		"let f = fun x -> any (x, x) in f @ + 1":                                     100,
		"let f = fun x -> (let g = fun y -> (x, y) in (g 1, g true)) in f @ = any 1": 100,
		"let f = fun x y -> (let z = (x, x) in y) in f @ @ = any 1":                  100,
		"let n = (any, []) in (n = (any, [@]))":                                      1000,
		"let n = [] in (1 :: n = any 1 && @ :: n = any 1)":                           1000,
		"let f = dup in f @ = any 1":                                                 100,
		"dup (dup @) = any 1":                                                        -1,
	} {
		if most < 0 {
			isGreat(t, env, s, 60)
			continue
		}
		isSmall(t, env, s, most-1)
		isSmall(t, env, s, most)
		if most < 900 { // otherwise there is no bound
			isGreat(t, env, s, most+1)
		}
	}
}

// filled: the declarations of a text, with a tuple for each @. A tuple of more than a cell may hold is none of it.
func filled(t *testing.T, s string, parts int) []api.Decl {
	if n := strings.Count(s, "@"); 2*parts*n > api.MaxSource-len(s) {
		parts = (api.MaxSource - len(s)) / (2 * n)
	}
	return parsed(t, strings.ReplaceAll(s, "@", tuple(parts)))
}

func isSmall(t *testing.T, env infer.Env, s string, parts int) {
	t.Helper()
	if _, _, e := infer.Cell(env, filled(t, s, parts)); e != api.OK {
		t.Errorf("%s, with %d parts: %d", s, parts, e)
	}
}

func isGreat(t *testing.T, env infer.Env, s string, parts int) {
	t.Helper()
	next, l, e := infer.Cell(env, filled(t, s, parts))
	if e != api.ErrType {
		t.Errorf("%s, with %d parts: %d", s, parts, e)
	}
	isNothing(t, s, next, l...)
}

// chain: the text of n equations between n + 1 names, each of which is a pair of the next one.
func chain(n int) (names, equations string) {
	names = "a0"
	for i := range n {
		v, w := "a"+strconv.Itoa(i), "a"+strconv.Itoa(i+1)
		names += " " + w
		if i > 0 {
			equations += "&&"
		}
		equations += v + "=(" + w + "," + w + ")"
	}
	return names, equations
}

// P7.1: names with types of 2^50 parts, and more.
func TestGreatNames(t *testing.T) {
	env := known(t, "let any = fun x -> fail \"\"")
	for _, n := range []int{20, 50, 64, 90} {
		names, equations := chain(n)
		core := "a" + strconv.Itoa(n)
		for s, want := range map[string]string{
			// as operands, and wherever nothing asks
			"true": "bool", "a0 = a0": "bool", "a0 = (a1, a1)": "bool", "(a0, a1) = any 1": "bool", "a0 = a1": "", "a0 = [a1]": "",
			core + " = 1": "bool", core + " = a0": "", "(if true then a0 else any 1) = any 1": "bool", "[a0; a0] = any 1": "bool",
			// what is asked has no type
			"let x = a0 in true": "", "match a0 with _ -> true": "", "any a0": "", "let x = fun y -> a0 in true": "", "any (" + core + ", a0)": "", "let x = a1 in true": "", "let x = (any 1, " + core + ") in x = (a0, 1)": "",
			// what isn't great has
			"let x = " + core + " in x = 1": "bool", "match " + core + " with x -> x = 1": "bool", "any " + core: "bool",
			// schemes, while such names are local
			"let f = fun x -> x in f true && f 1 = 1":                                                "bool",
			"let f = fun x -> " + core + " in f true = 1 && f 1 = 2":                                 "bool",
			"let f = fun x -> " + core + " in f true = 1 && f 1 = true":                              "",
			"let f = fun x -> (x, " + core + ") in f true = (true, 1) && f 1 = (1, 2)":               "bool",
			"let f = fun x -> (x, " + core + ") in f true = (true, 1) && f 1 = (1, true)":            "",
			"let f = fun x -> if a0 = a0 then x else x in f true && f 1 = 1":                         "bool",
			"let f = fun x -> if a0 = any 1 then x else x in f true && f 1 = 1":                      "bool",
			"let f = fun x -> if (x, a1) = (" + core + ", any 1) then x else x in f 2 = 1":           "bool",
			"let f = fun x -> if (x, a1) = (" + core + ", any 1) then x else x in f true && f 1 = 1": "",
			"let f = fun x y -> (x, y = a0) in let g = fun z -> f z in true":                         "",
		} {
			isType(t, env, "(fun "+names+" -> "+equations+" && ("+s+")) = any 1", want)
			isType(t, env, "(fun "+names+" -> ("+s+") && "+equations+") = any 1", want)
		}
	}
}

// deepest: the longest of the texts that grow from a first one, by ahead and behind, and that are cells, between the ends.
func deepest(t *testing.T, first, ahead, behind string, ends ...string) string {
	t.Helper()
	s := ""
	for {
		longer := ends[0] + first + ends[1]
		if _, _, e := parse.Cell(longer); e != api.OK {
			break
		}
		s = longer
		first = ahead + first + behind
	}
	if len(s) < 4*len(ahead+behind) {
		t.Fatalf("%s is too short", s)
	}
	return s
}

// P7.1: the effort is polynomial, whatever grows on the way.
func TestEffort(t *testing.T) {
	names, equations := chain(50)
	great := []string{"(fun " + names + " -> " + equations + " && (", ")) = fail \"\""}
	env := known(t, "let p x = (x, x) ;; let f a b c d = (a = b, [(c, d)], [(b, c, d)], [(d, a, c, b)], [(a, b, c, a, b, c)], [(d, c, a, c, d)], [(a, b, b, b, b)], [(c, d, d, d, d)])")
	for _, c := range []struct{ first, ahead, behind, want string }{
		{"1", "p (", ")", ""},
		{"1", "let p x = p (p x) in ", "", ""},
		{"1", "let x = p 1 in let p x = x in let p = p in ", "", "int"},
		{"fun x -> x", "let f = f 1 in let f = f in ", "", ""},
		{"f", "let f = fun x -> if [f] = [f] then f else f in let f = f 1 in ", "", "?"},
		{"true", "let g = fun x -> f (f x) (f x) in ", "", "?"},
	} {
		soon(t, c.ahead, func() {
			s := deepest(t, c.first, c.ahead, c.behind, "", "")
			if c.want != "?" {
				isType(t, env, s, c.want)
			}
			infer.Cell(env, parsed(t, s))
		})
	}
	for _, c := range []struct{ first, ahead, behind string }{
		{"true", "let f = fun x -> (x, a50) in ", ""},
		{"true", "let f = fun x -> (let f = ", " in f = f) in f true"},
		{"true", "let rec g x = let f = fun y -> g x in (", ") in true"},
		{"true", "(", ") && (let f = fun x -> a1 = fail \"\" in f true && f 1)"},
	} {
		soon(t, c.ahead, func() { isType(t, env, deepest(t, c.first, c.ahead, c.behind, great...), "bool") })
	}
	soon(t, "many at once", func() {
		isType(t, env, "let l = ["+strings.Repeat("f;", 900)+"f] in l = [f]", "bool")
		isType(t, env, "fun x -> ("+strings.Repeat("[[x]] = x || ", 100)+"true)", "")
		isType(t, env, "fun x -> ("+strings.Repeat("[x] = [x] || ", 100)+"true)", "'a -> bool")
	})
}

// P7.1: the effort, with a type of very many variables, and a cell of very many declarations.
func TestMany(t *testing.T) {
	var vars []string
	for i := range 300 {
		vars = append(vars, print.Var(i+27))
	}
	env := known(t, "type ("+strings.Join(vars, ",")+") t = A")
	soon(t, "many variables", func() {
		isType(t, env, "["+strings.Repeat("A;", 900)+"A] = []", "bool")
		isType(t, env, "A", "")
	})
	soon(t, "many declarations", func() {
		var l []api.Decl
		for range 5000 {
			l = append(l, parsed(t, "let x = fun y -> y ;; type t = B")[0])
		}
		if _, c, e := infer.Cell(env, l); e != api.OK || len(c) != len(l) {
			t.Errorf("many declarations: %d", e)
		}
	})
}

// P7.1: a constructor's type has at most Great parts.
func TestGreatConstructor(t *testing.T) {
	for parts := 98; parts <= 103; parts++ {
		for _, k := range []api.Type{
			of("*", many(parts-1)...),
			of("->", variable(1), of("*", many(parts-3)...)),
			of("list", of("t", of("*", many(parts-3)...))),
		} {
			d := api.Decl{Kind: api.DType, Text: "t", N: 1, Ctors: []api.Ctor{{Name: "A"}, {Name: "B", Has: true, T: k}}}
			env, c, e := infer.Decl(infer.Base(), d)
			if types.Size(k, 1000) != parts || parts <= infer.Great && e != api.OK || parts > infer.Great && e != api.ErrType {
				t.Errorf("a constructor of %d parts: %d", types.Size(k, 1000), e)
			}
			if e != api.OK {
				isNothing(t, "a great constructor", env)
			}
			if c.N != 0 || !types.Same(c.T, api.Type{}) {
				t.Errorf("the scheme of a type: %v", c)
			}
		}
	}
}

// many: so many ints.
func many(n int) []api.Type {
	var l []api.Type
	for range n {
		l = append(l, of("int"))
	}
	return l
}
