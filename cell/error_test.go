package cell_test

import (
	"math"
	"strings"
	"testing"

	"battledore/api"
	"battledore/cell"
)

// P12.2: the errors ahead of the execution, in their order; nothing is executed then.
func TestRefused(t *testing.T) {
	x := after(t, made(t, 2000), "let r = ref 0 ;; type t = A | B of int")
	long := strings.Repeat(" ", api.MaxSource+1)
	for _, fuel := range []int{-1, math.MinInt, api.MaxFuel + 1, math.MaxInt} {
		for _, s := range []string{"1", "", "let", "1 1", "1 / 0", "print \"a\"", long} {
			mustTell(t, x, s, fuel, "E1")
		}
	}
	for _, c := range [][2]string{
		{"let", "E4; at 3"}, {"1 + \"a\" ;; let", "E4; at 14"}, {"print \"a\" ;; ?", "E4; at 13"}, {"1 ;; )", "E4; at 5"}, {"\"a", "E4; at 2"},
		{long, "E2"}, {"1 ;; 4611686018427387904", "E1; at 5"}, {"1 ;; abcdefghijklmnopqrstuvwxyz", "E2; at 5"},
		{strings.Repeat("(", 60), "E5; at 16"}, {"let rec f = 1", "E4; at 12"},
		{"match 1 with (a, a) -> 1", "E7; at 13"}, {"type u = U | U", "E7; at 13"}, {"type u = U of 'a", "E6; at 14"},
		{"x x", "E8"}, {"1 + \"a\"", "E8"}, {"print \"a\" ;; move 1 ;; r := 1 ;; 1 / 0 ;; 1 + true", "E8"}, {"let a = ref []", "E8"}, {"C", "E8"}, {"B", "E8"}, {"later ;; let later = 1", "E8"}, {"L ;; type l = L", "E8"},
		{"print \"a\" ;; type t = C", "E7"}, {"type u = A", "E7"}, {"type u = U of v", "E8"}, {"type u = U ;; type u = V", "E7"}, {"type int = I", "E7"},
	} {
		for _, fuel := range []int{0, 9, api.MaxFuel} {
			mustTell(t, x, c[0], fuel, c[1])
		}
	}
}

// P12.2: the errors of the execution; what was printed, and the moves, are kept, and nothing else.
func TestFailed(t *testing.T) {
	x := after(t, made(t, 1500), "let r = ref 0 ;; let s = r ;; let l = [ref 7]", "let rec f x = f x", "let rec up n = if n = 0 then [] else n :: up (n - 1)")
	for _, c := range []struct {
		s    string
		fuel int
		want string
	}{
		{"1 / 0", 0, "E9; raised div"},
		{"1 mod 0", 0, "E9; raised div"},
		{"match 1 with 2 -> 3", 0, "E9; raised match"},
		{"match [1] with [] -> 3", 0, "E9; raised match"},
		{"f = f", 1, "E9; raised equal"},
		{"fail \"some text\"", 1, "E9; raised some text"},
		{"fail \"\"", 1, "E9"},
		{"let rec g n = if n = 0 then \"x\" else let s = g (n - 1) in s ^ s ;; g 13", 100, "E9; raised long"},
		{"try 1 / 0 with e -> fail (e ^ \"!\")", 9, "E9; raised div!"},
		{"let a = 5 ;; print \"a\" ;; move 3 ;; print \"b\"; turn 2; 1 / 0 ;; print \"c\"", 9, "E9; raised div; out ab; move 3; turn 2"},
		{"r := 5 ;; print \"a\"; match l with [a] -> a := 6; fail \"x\" | _ -> ()", 9, "E9; raised x; out a"},
		{"type u = U ;; let a = U ;; r := 5; fail \"y\"", 9, "E9; raised y"},
		{"f 0", 0, "E10"},
		{"f 0", api.MaxFuel, "E10"},
		{"try f 0 with e -> 1", 50, "E10"},
		{"r := 5; print \"a\" ;; print \"b\" ;; print \"c\"", 2, "E10; out ab"},
		{"r := 5; move 3 ;; move 4; 1 = 1 ;; 3", 2, "E10; move 3; move 4"},
		{"up 1000", api.MaxFuel, "E11"},
		{"try up 1000 with e -> []", api.MaxFuel, "E11"},
		{"r := 5; print \"a\"; move 1 ;; let a = up 20 ;; print \"b\"; up 1000", api.MaxFuel, "E11; out ab; move 1"},
		{"fail (itoa (1 / 0))", 9, "E9; raised div"},
	} {
		mustTell(t, x, c.s, c.fuel, c.want)
		mustTell(t, x, "(!r, !s, l) ;; f", 0, "- : int * int * int ref list = (0, 0, [{7}]); - : 'a -> 'b = <fun>")
		mustTell(t, x, "U", 0, "E8")
	}
}

// P12.2: as many functions as a machine has, and more.
func TestManyFunctions(t *testing.T) {
	x := made(t, 2000)
	for api.MaxFuns-x.M.Count() > 500 {
		x = after(t, x, "0"+strings.Repeat(";;0", 499))
	}
	for x.M.Count() < api.MaxFuns-3 {
		x = after(t, x, "let a = 5")
	}
	mustTell(t, x, "print \"a\" ;; move 1 ;; 3", 9, "- : unit = (); - : unit = (); - : int = 3; out a; move 1")
	mustTell(t, x, "print \"a\" ;; move 1 ;; 3 ;; print \"b\"", 9, "E2; out a; move 1")
	mustTell(t, x, "print \"a\" ;; let f = fun x -> x", 9, "- : unit = (); f : 'a -> 'a = <fun>; out a")
	mustTell(t, x, "print \"a\" ;; move 2 ;; let f = fun x -> x", 9, "E2; out a; move 2")
	mustTell(t, x, "fun a b c -> a", 9, "E2")
	x = after(t, x, "1 ;; 2 ;; let b = 3")
	mustTell(t, x, "b", 9, "E2")
	mustTell(t, x, "type t = A of int", 9, "")
	mustTell(t, x, "print 1", 9, "E8")
}

// P12.1, P12.2: neither Run nor Show keeps what it was given, nor shares what it returns.
func TestMemory(t *testing.T) {
	x := after(t, made(t, 2000), "let r = ref 1")
	s := "move 1; move 2; turn 3 ;; let a = !r ;; print \"out\""
	_, want := cell.Run(x, s, 99)
	for range 3 {
		_, o := cell.Run(x, s, 99)
		if !sameOutcome(o, want) {
			t.Fatalf("%s, not %s", told(o), told(want))
		}
		for i := range o.Binds[:cap(o.Binds)] {
			o.Binds[:cap(o.Binds)][i].Value = "x"
		}
		for i := range o.Moves[:cap(o.Moves)] {
			o.Moves[:cap(o.Moves)][i].N = 99
		}
	}
}
