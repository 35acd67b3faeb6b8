package cell_test

import (
	"bytes"
	"strconv"
	"strings"
	"testing"

	"battledore/api"
	"battledore/cell"
	"battledore/image"
)

// P12.1: what declarations come to, each after those before it.
func TestBinds(t *testing.T) {
	x := made(t, 5000)
	for _, c := range [][2]string{
		{"let x = 5 ;; x + 1", "x : int = 5; - : int = 6"},
		{"", ""},
		{";;", ""},
		{"type color = Red | Blue of int", ""},
		{"type u = U ;; U ;; let u = U ;; type v = V of u ;; V u", "- : u = U; u : u = U; - : v = V (U)"},
		{"Blue 3", "- : color = Blue (3)"},
		{"let x = \"new\" ;; x ;; let x = x ^ \"er\" ;; x", "x : string = \"new\"; - : string = \"new\"; x : string = \"newer\"; - : string = \"newer\""},
		{"x", "- : string = \"newer\""},
		{"let a = 1 ;; let f = fun () -> a", "E4; at 25"},
		{"let a = 1 ;; let f = fun u -> a ;; let a = 2 ;; f ()", "a : int = 1; f : 'a -> int = <fun>; a : int = 2; - : int = 1"},
		{"f ()", "- : int = 1"},
		{"let f x = x ;; let f x = f x + 1 ;; f 0", "f : 'a -> 'a = <fun>; f : int -> int = <fun>; - : int = 1"},
		{"let rec g n = if n <= 1 then 1 else n * g (n - 1) ;; g 10", "g : int -> int = <fun>; - : int = 3628800"},
		{"let r = ref 0 ;; r ;; r := 7 ;; r ;; !r", "r : int ref = {0}; - : int ref = {0}; - : unit = (); - : int ref = {7}; - : int = 7"},
		{"let s = r ;; s := !s + 1 ;; r = s ;; !r", "s : int ref = {7}; - : unit = (); - : bool = true; - : int = 8"},
		{"fun f -> fun x -> f (f x)", "- : ('a -> 'a) -> 'a -> 'a = <fun>"},
		{"let k a b = a ;; (k, [])", "k : 'a -> 'b -> 'a = <fun>; - : ('a -> 'b -> 'a) * 'c list = (<fun>, [])"},
		{"let print = print ;; let not = 3 ;; print \"a\" ;; not", "print : string -> unit = <fun>; not : int = 3; - : unit = (); - : int = 3; out a"},
		{"1 ;; let in_ = 2 ;; let y = 3 in y ;; 4", "- : int = 1; in_ : int = 2; - : int = 3; - : int = 4"},
	} {
		x = mustTell(t, x, c[0], enough, c[1])
	}
}

// P12.1: what is printed, and the moves, of all declarations.
func TestOut(t *testing.T) {
	x := made(t, 20000)
	mustTell(t, x, "print \"a\"; print \"b\"; move 3; turn 1", 9, "- : unit = (); out ab; move 3; turn 1")
	mustTell(t, x, "print \"a\" ;; move 3 ;; let u = print \"b\" ;; turn (-1) ;; 5", 9, "- : unit = (); - : unit = (); u : unit = (); - : unit = (); - : int = 5; out ab; move 3; turn -1")
	x = after(t, x, "let rec times n f = if n = 0 then () else (f (); times (n - 1) f)")
	x = after(t, x, "let ten u = print \"0123456789\"", "let step u = move 1")
	ten := strings.Repeat("0123456789", 100)
	mustTell(t, x, "times 100 ten", enough, "- : unit = (); out "+ten)
	mustTell(t, x, "times 99 ten; print \"abcdefghi\"; ten ()", enough, "- : unit = (); out "+ten[:990]+"abcdefghi0")
	mustTell(t, x, "times 60 ten ;; times 39 ten ;; print \"abcdefghi\" ;; ten () ;; ten ()", enough, strings.Repeat("- : unit = (); ", 5)+"out "+ten[:990]+"abcdefghi0")
	moves := strings.Repeat("; move 1", api.MaxMoves)
	mustTell(t, x, "times 1000 step", enough, "- : unit = ()"+moves)
	mustTell(t, x, "times 1001 step", enough, "E9; raised moves"+moves)
	mustTell(t, x, "times 500 step ;; times 499 step ;; turn 2", enough, "- : unit = (); - : unit = (); - : unit = ()"+moves[:8*999]+"; turn 2")
	mustTell(t, x, "times 500 step ;; times 500 step ;; turn 2", enough, "E9; raised moves"+moves)
	mustTell(t, x, "try times 1005 step with e -> print e ;; try turn 1 with e -> print (e ^ \"!\")", enough, "- : unit = (); - : unit = (); out movesmoves!"+moves)
}

// P12.1: evaluation is from left to right, and strict.
func TestOrder(t *testing.T) {
	x := after(t, made(t, 3000), "let p s v = print s; v", "type c = C of int * int")
	for _, c := range [][2]string{
		{"(p \"f\" (fun x -> x + 1)) (p \"a\" 1)", "2; out fa"},
		{"(p \"f\" (fun x -> fun y -> x - y)) (p \"a\" 5) (p \"b\" 1)", "4; out fab"},
		{"(p \"f\" (fun x -> p \"!\" (fun y -> x - y))) (p \"a\" 5) (p \"b\" 1)", "4; out fa!b"},
		{"p \"a\" 7 - p \"b\" 2", "5; out ab"},
		{"p \"a\" 7 / p \"b\" 2 + p \"c\" 1 * p \"d\" 0 mod p \"e\" 2", "3; out abcde"},
		{"(p \"a\" 1 = p \"b\" 2, p \"c\" 1 <> p \"d\" 2, p \"e\" 1 < p \"f\" 2, p \"g\" 2 <= p \"h\" 1)", "(false, true, true, false); out abcdefgh"},
		{"p \"a\" \"x\" ^ p \"b\" \"y\" ^ p \"c\" \"z\"", "\"xyz\"; out abc"},
		{"p \"a\" 1 :: p \"b\" 2 :: p \"c\" []", "[1; 2]; out abc"},
		{"[p \"a\" 1; p \"b\" 2; p \"c\" 3]", "[1; 2; 3]; out abc"},
		{"C (p \"a\" 1, p \"b\" 2)", "C ((1, 2)); out ab"},
		{"p \"a\" (ref 1) := p \"b\" 2", "(); out ab"},
		{"-p \"a\" 3 - -p \"b\" 4", "1; out ab"},
		{"(p \"a\" true && p \"b\" false, p \"c\" false && p \"d\" true, p \"e\" true || p \"f\" true, p \"g\" false || p \"h\" true)", "(false, false, true, true); out abcegh"},
		{"if p \"a\" true then p \"b\" 1 else p \"c\" 2", "1; out ab"},
		{"if p \"a\" false then p \"b\" 1 else p \"c\" 2", "2; out ac"},
		{"let a = p \"a\" 1 in p \"b\" (); a", "1; out ab"},
		{"match p \"a\" 1 with 0 -> p \"b\" 0 | 1 -> p \"c\" 1 | _ -> p \"d\" 2", "1; out ac"},
		{"try p \"a\" 1 with e -> p \"b\" 2", "1; out a"},
		{"try p \"a\" (fail \"x\") with e -> p \"b\" e", "\"x\"; out b"},
		{"(fun x -> ()) (p \"a\" 1)", "(); out a"},
		{"let f = fun x -> p \"a\" x in p \"b\" (); f (f 1)", "1; out baa"},
		{"(p \"a\" fail) (p \"b\" \"c\"); p \"d\" ()", "E9; raised c; out ab"},
		{"p \"a\" 1 / p \"b\" 0 + p \"c\" 1", "E9; raised div; out ab"},
	} {
		want := "- : " + typeOf(t, x, c[0]) + " = " + c[1]
		if c[1][0] == 'E' {
			want = c[1]
		}
		mustTell(t, x, c[0], enough, want)
	}
}

// typeOf: the type that a cell of one expression tells, if it comes to no error.
func typeOf(t *testing.T, x image.World, s string) string {
	t.Helper()
	_, o := cell.Run(x, "fun u -> ("+s+")", enough)
	if o.E != api.OK {
		t.Fatalf("%s: %s", s, told(o))
	}
	return strings.TrimPrefix(o.Binds[0].Type, "'a -> ")
}

// P12.1: values of expressions.
func TestValues(t *testing.T) {
	x := after(t, made(t, 60000),
		"type 'a tree = Leaf | Node of 'a tree * 'a * 'a tree ;; type s = Z | S of s",
		"let rec up n = if n = 0 then [] else n :: up (n - 1)",
		"let rec copies n s = if n = 0 then \"\" else s ^ copies (n - 1) s")
	for _, c := range [][2]string{
		{"4611686018427387903 + 1", "-4611686018427387904"},
		{"-4611686018427387903 - 2", "4611686018427387903"},
		{"-(-4611686018427387903 - 1)", "-4611686018427387904"},
		{"(-4611686018427387903 - 1) / -1", "-4611686018427387904"},
		{"(-4611686018427387903 - 1) mod -1", "0"},
		{"4611686018427387903 * 4611686018427387903", "1"},
		{"3037000500 * 3037000500", "145474192"},
		{"(7 / 2, -7 / 2, 7 / -2, -7 / -2, 7 mod 2, -7 mod 2, 7 mod -2, -7 mod -2)", "(3, -3, -3, 3, 1, -1, 1, -1)"},
		{"(1 < 1, 1 <= 1, 1 = 1, 1 <> 1, -1 < 1, \"a\" = \"a\", \"a\" <> \"b\", () = (), true = false)", "(false, true, true, false, true, true, true, true, false)"},
		{"([1; 2] = [1; 2], [1] = [1; 2], [] = [1], (1, \"a\") = (1, \"a\"), (1, [2]) = (1, [3]))", "(true, false, false, true, false)"},
		{"(Leaf = Leaf, Leaf = Node (Leaf, 1, Leaf), Node (Leaf, 1, Leaf) = Node (Leaf, 1, Leaf), S (S Z) = S Z, S Z <> Z)", "(true, false, true, false, true)"},
		{"let r = ref 1 in let s = ref 1 in (r = s, r = r, ref r = ref r, !r = !s)", "(false, true, false, true)"},
		{"let f = fun x -> x + 1 in try (f = f, true) with e -> (e = \"equal\", false)", "(true, false)"},
		{"([fun x -> x + 1] = [], (1, print) = (2, print))", "(false, false)"},
		{"try [print] = [print] with e -> e = \"equal\"", "true"},
		{"(not true, not false, size \"abc\", size \"\", itoa 0, itoa (-5), itoa 4611686018427387903)", "(false, true, 3, 0, \"0\", \"-5\", \"4611686018427387903\")"},
		{"let r = ref [] in r := 1 :: !r; r := 2 :: !r; !r", "[2; 1]"},
		{"let x = 1 in let f = fun y -> x + y in let x = 10 in f x", "11"},
		{"let f x = let g y = x + y in let x = 100 in g x in f 1", "101"},
		{"let rec f x = if x = 0 then 0 else f (x - 1) + x in let g = f in let f x = x in g 4", "10"},
		{"let f = fun x -> 1 in let f = fun x -> f x + 1 in f 0", "2"},
		{"match [1; 2; 3] with a :: b :: r -> (a, b, r) | _ -> (0, 0, [])", "(1, 2, [3])"},
		{"match (1, (2, \"x\")) with (1, (3, _)) -> 1 | (a, (2, \"y\")) -> a | (a, (b, \"x\")) -> a + b | _ -> 0", "3"},
		{"match -3 with 3 -> 1 | - 3 -> 2 | _ -> 3", "2"},
		{"match Node (Leaf, 4, Node (Leaf, 5, Leaf)) with Node (_, a, Node (l, b, Leaf)) -> (a, b, l) | _ -> (0, 0, Leaf)", "(4, 5, Leaf)"},
		{"match (true, (), []) with (false, _, _) -> 1 | (_, (), [x]) -> x | (true, (), []) -> 3", "3"},
		{"let x = 1 in match 2 with x -> x", "2"},
		{"try match 3 with 1 -> \"one\" | 2 -> \"two\" with e -> e", "\"match\""},
		{"try itoa (1 / 0) with e -> e", "\"div\""},
		{"try itoa (1 mod 0) with e -> e", "\"div\""},
		{"try (try fail \"a\" with e -> fail (e ^ \"b\")) with e -> e ^ \"c\"", "\"abc\""},
		{"(try fail \"a\" with e -> 1) + (try fail \"b\" with e -> 2)", "3"},
		{"let f x = fail x in try f \"deep\" with e -> size e", "4"},
		{"let r = ref 0 in (try r := 5; fail \"\" with e -> ()); !r", "5"},
		{"size (copies 4 (copies 1024 \"x\"))", "4096"},
		{"try size (copies 4 (copies 1024 \"x\") ^ \"y\") with e -> size e * 1000", "4000"},
		{"try itoa (size (copies 4 (copies 1024 \"x\") ^ \"y\")) with e -> e", "\"long\""},
		{"let a = 1 in let b = 2 in let f x y z = [a; b; x; y; z] in (f 3 4 5, f 6 7)", "([1; 2; 3; 4; 5], <fun>)"},
		{"let rec even n = if n = 0 then true else let odd m = if m = 0 then false else even (m - 1) in odd (n - 1) in (even 10, even 7)", "(true, false)"},
		{"up 5", "[5; 4; 3; 2; 1]"},
		{"let rec sum l = match l with [] -> 0 | a :: r -> a + sum r in sum (up 1000)", "500500"},
		{"let rec down n = if n = 0 then 0 else down (n - 1) in down 2000", "0"},
		{"let rec twice n = if n = 0 then (fun x -> x + 1) else let f = twice (n - 1) in fun x -> f (f x) in twice 7 0", "128"},
	} {
		if got := value(t, x, c[0]); got != c[1] {
			t.Errorf("%s: %s, not %s", c[0], got, c[1])
		}
	}
}

// P12.1: a step is each call, and each pair of values that = and <> examine; all declarations share the fuel.
func TestSteps(t *testing.T) {
	x := after(t, made(t, 20000), "type c = C of int | D of (int * c) | E | F of int", "let f x = x", "let g a b = a", "let rec h n = if n = 0 then 0 else h (n - 1)")
	for _, c := range []struct {
		s     string
		steps int
	}{
		{"1 + 2 * 3", 0},
		{"let u = fun x -> f x ;; (1, [2; 3], C 4, \"a\" ^ \"b\")", 0},
		{"f 1", 1},
		{"f 1 ;; f 2 ;; let v = f 3", 3},
		{"g 1 2", 2},
		{"g 1", 1},
		{"print \"\"; size \"\"", 2},
		{"ref 1 ;; not true", 2},
		{"h 10", 22},
		{"try fail \"a\" with e -> 1", 1},
		{"try 1 / 0 with e -> 1", 0},
		{"1 = 2", 1},
		{"1 <> 2 && 3 = 3", 2},
		{"1 = 2 && 3 = 3", 1},
		{"\"abc\" = \"abc\" ;; () = () ;; true = false", 3},
		{"(1, 2) = (1, 2)", 3},
		{"(1, 2) = (2, 2)", 2},
		{"(1, 2) <> (1, 3)", 3},
		{"[] = []", 1},
		{"[] = [1]", 1},
		{"[1] = [1]", 3},
		{"[1; 2] = [1; 2]", 5},
		{"[1; 2] = [1]", 3},
		{"[1; 2] = [3]", 2},
		{"E = E", 1},
		{"E = C 1", 1},
		{"C 1 = C 1", 3},
		{"C 1 = F 1", 2},
		{"C 1 <> C 2", 3},
		{"D (1, E) = D (1, E)", 5},
		{"D (1, C 2) = D (1, C 2)", 7},
		{"ref (1, 2) = ref (1, 2)", 3},
		{"let r = ref (1, 2) in r = r", 2},
		{"try [f] = [f] with e -> true", 2},
		{"match (1, [2]) with (1, [3]) -> 1 | (1, [2]) -> 2 | _ -> 3", 0},
	} {
		if _, o := cell.Run(x, c.s, c.steps); o.E != api.OK {
			t.Errorf("%s, %d steps: %s", c.s, c.steps, told(o))
		}
		if c.steps == 0 {
			continue
		}
		if _, o := cell.Run(x, c.s, c.steps-1); o.E != api.ErrFuel {
			t.Errorf("%s, %d steps: %s", c.s, c.steps-1, told(o))
		}
	}
	rest := api.MaxFuel - 2
	if _, o := cell.Run(x, "h "+strconv.Itoa(rest/2), api.MaxFuel); o.E != api.OK {
		t.Errorf("as many steps as may be: %s", told(o))
	}
	if _, o := cell.Run(x, "h "+strconv.Itoa(rest/2+1), api.MaxFuel); o.E != api.ErrFuel {
		t.Errorf("more steps: %s", told(o))
	}
}

// P12.1: Run may be called with a world again, and always comes to the same; the worlds after it don't depend on one another.
func TestAgain(t *testing.T) {
	x := after(t, made(t, 2000), "let r = ref 0 ;; let l = [r]")
	for i := range 3 {
		y := mustTell(t, x, "r := !r + 1 ;; let a = !r ;; type t = T ;; l", enough, "- : unit = (); a : int = 1; - : int ref list = [{1}]")
		z := mustTell(t, x, "r := !r + 5 ;; let b = !r", enough, "- : unit = (); b : int = 5")
		mustTell(t, y, "r := !r + 1 ;; (!r, a, T) ;; l", enough, "- : unit = (); - : int * int * t = (2, 1, T); - : int ref list = [{2}]")
		mustTell(t, z, "(!r, b)", enough, "- : int * int = (5, 5)")
		mustTell(t, z, "a", enough, "E8")
		mustTell(t, x, "!r", enough, "- : int = 0")
		if w := mustTell(t, x, "r := 1 ;; let a = 1 ;; type t = T ;; l", enough, "- : unit = (); a : int = 1; - : int ref list = [{1}]"); i == 0 && bytes.Equal(image.Save(w), image.Save(y)) {
			t.Error("worlds after other cells are the same")
		}
	}
	y, _ := cell.Run(x, "", 0)
	if y.M == x.M || y.M.Heap() == x.M.Heap() {
		t.Error("the world after a cell has the machine of the world before it")
	}
}

// P12.1: what nothing reaches any more isn't kept in the world after a cell.
func TestGarbage(t *testing.T) {
	x := after(t, made(t, 5000), "let rec up n = if n = 0 then [] else n :: up (n - 1)")
	used := x.M.Heap().Used()
	y := after(t, x, "up 100 ;; let a = up 3 ;; \"text\" ;; up 200")
	if n := y.M.Heap().Used(); n != used+9 {
		t.Errorf("%d words, not %d", n, used+9)
	}
}
