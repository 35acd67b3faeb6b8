package cell_test

import (
	"strconv"
	"strings"
	"testing"

	"battledore/api"
	"battledore/cell"
	"battledore/heap"
	"battledore/image"
	"battledore/infer"
)

func of(name string, kids ...api.Type) api.Type { return api.Type{Name: name, Kids: kids} }

// P12.1, P12.2: a value as text, by its type.
func TestShow(t *testing.T) {
	x := after(t, made(t, 20000),
		"type color = Red | Green of int | Blue ;; type 'a box = Box of 'a ;; type ('a, 'b) either = Left of 'a | Right of 'b | None",
		"type 'a tree = Leaf | Node of 'a tree * 'a * 'a tree ;; type 'a deep = Flat of 'a | Deep of ('a * 'a) deep ;; type f = F of (int -> int)")
	for _, c := range [][2]string{
		{"0", "0"}, {"-5", "-5"}, {"4611686018427387903", "4611686018427387903"}, {"-4611686018427387903 - 1", "-4611686018427387904"},
		{"true", "true"}, {"false", "false"}, {"()", "()"},
		{`""`, `""`}, {`"a\n\t\"\\b"`, `"a\n\t\"\\b"`}, {"\"\x01é\xff\"", "\"\x01é\xff\""},
		{"fun x -> x", "<fun>"}, {"print", "<fun>"}, {"fun x -> fun y -> x y", "<fun>"}, {"(fun x y -> x) 1", "<fun>"},
		{"(1, true)", "(1, true)"}, {"(1, (2, 3), ())", "(1, (2, 3), ())"}, {"((1, 2), 3)", "((1, 2), 3)"},
		{"ref 1", "{1}"}, {"ref (1, [ref 2])", "{(1, [{2}])}"}, {"ref []", "{[]}"}, {"ref ref", "{<fun>}"},
		{"[]", "[]"}, {"[1]", "[1]"}, {"[1; 2; 3]", "[1; 2; 3]"}, {"[[]; [1]; []]", "[[]; [1]; []]"}, {"[()]", "[()]"}, {"[\"a\"; \"\"]", "[\"a\"; \"\"]"}, {"[print]", "[<fun>]"}, {"[(1, 2); (3, 4)]", "[(1, 2); (3, 4)]"},
		{"Red", "Red"}, {"Blue", "Blue"}, {"Green 3", "Green (3)"}, {"Green (-3)", "Green (-3)"}, {"[Red; Green 0; Blue]", "[Red; Green (0); Blue]"},
		{"Box 1", "Box (1)"}, {"Box (Box true)", "Box (Box (true))"}, {"Box ()", "Box (())"}, {"Box []", "Box ([])"}, {"Box (1, 2)", "Box ((1, 2))"}, {"Box Red", "Box (Red)"}, {"Box (ref \"a\")", "Box ({\"a\"})"},
		{"[Left 1; Right \"a\"; None]", "[Left (1); Right (\"a\"); None]"}, {"None", "None"}, {"Left (Right true)", "Left (Right (true))"}, {"Box (Left (1, Green 2))", "Box (Left ((1, Green (2))))"},
		{"Node (Leaf, 1, Leaf)", "Node ((Leaf, 1, Leaf))"}, {"Node (Node (Leaf, false, Leaf), true, Leaf)", "Node ((Node ((Leaf, false, Leaf)), true, Leaf))"},
		{"Flat 1", "Flat (1)"}, {"Deep (Flat (true, false))", "Deep (Flat ((true, false)))"}, {"Deep (Deep (Flat ((1, 2), (3, 4))))", "Deep (Deep (Flat (((1, 2), (3, 4)))))"},
		{"F (fun x -> x)", "F (<fun>)"}, {"(Leaf, Red)", "(Leaf, Red)"},
	} {
		if got := value(t, x, c[0]); got != c[1] {
			t.Errorf("%s: %s, not %s", c[0], got, c[1])
		}
	}
}

// P12.2: Show of the same word by several types: ? where it is a variable.
func TestShowTypes(t *testing.T) {
	x := after(t, made(t, 2000), "type 'a box = Box of 'a | Nothing ;; let v = (1, [(2, \"a\"); (3, \"b\")], Box (ref true), [if true then Nothing else Box 4])")
	globs := x.M.Globals()
	w := globs[len(globs)-1]
	a, b := api.Type{Var: 1}, api.Type{Var: 700}
	i, s, l := of("int"), of("string"), of("list", api.Type{Var: 3})
	for _, c := range []struct {
		t    api.Type
		want string
	}{
		{of("*", i, of("list", of("*", i, s)), of("box", of("ref", of("bool"))), of("list", of("box", i))), `(1, [(2, "a"); (3, "b")], Box ({true}), [Nothing])`},
		{a, "?"}, {b, "?"}, {api.Type{}, "?"}, {api.Type{Var: -1}, "?"},
		{of("*", a, b, a, a), "(?, ?, ?, ?)"},
		{of("*", b, l, of("box", b), l), "(?, [?; ?], Box (?), [?])"},
		{of("*", i, of("list", of("*", i, b)), of("box", of("ref", a)), of("list", of("box", a))), "(1, [(2, ?); (3, ?)], Box ({?}), [Nothing])"},
		{of("->", a, b), "<fun>"},
	} {
		if got := cell.Show(x, w, c.t); got != c.want {
			t.Errorf("%v: %s, not %s", c.t, got, c.want)
		}
	}
	for w, want := range map[heap.Word]string{heap.Num(5): "5", heap.Num(-5): "-5", heap.Num(0): "0"} {
		if got := cell.Show(x, w, i); got != want {
			t.Errorf("%d: %s", w, got)
		}
	}
}

// P12.1: a text of at most MaxShow bytes is whole, of a longer one there are so many, and ... .
func TestShort(t *testing.T) {
	x := after(t, made(t, 60000),
		"let rec up n = if n = 0 then [] else n :: up (n - 1) ;; let rec copies n s = if n = 0 then \"\" else s ^ copies (n - 1) s",
		"type t = E | N of t ref ;; type s = Z | S of s ;; let rec nat n = if n = 0 then Z else S (nat (n - 1)) ;; let rec loop u = loop u")
	whole := func(s string) string {
		if len(s) > 400 {
			return s[:400] + "..."
		}
		return s
	}
	for _, n := range []int{0, 1, 390, 397, 398, 399, 400, 401, 500} {
		y := after(t, x, "let s = copies "+strconv.Itoa(n)+" \"\\t\"")
		text := `"` + strings.Repeat(`\t`, n) + `"`
		for _, c := range [][2]string{{"s", text}, {"(s, 1)", "(" + text + ", 1)"}, {"(0, s)", "(0, " + text + ")"}, {"[s; s]", "[" + text + "; " + text + "]"}, {"ref s", "{" + text + "}"}} {
			if got := value(t, y, c[0]); got != whole(c[1]) {
				t.Errorf("%s of %d: %s, not %s", c[0], n, got, whole(c[1]))
			}
		}
	}
	for n := range 40 {
		s := strings.Repeat("x", 370+n)
		for _, c := range [][2]string{
			{`"` + s + `"`, `"` + s + `"`}, {`("` + s + `",true)`, `("` + s + `", true)`}, {`["` + s + `"]`, `["` + s + `"]`}, {`[[["` + s + `"]]]`, `[[["` + s + `"]]]`}, {`ref (ref "` + s + `")`, `{{"` + s + `"}}`},
			{`["` + s + `";""]`, `["` + s + `"; ""]`}, {`("` + s + `",Z)`, `("` + s + `", Z)`}, {`("` + s + `",S Z)`, `("` + s + `", S (Z))`}, {`("` + s + `",loop)`, `("` + s + `", <fun>)`}, {`("` + s + `",-77)`, `("` + s + `", -77)`},
		} {
			if got := value(t, x, c[0]); got != whole(c[1]) {
				t.Errorf("%s: %s", c[0], got)
			}
		}
	}
	list := "["
	for i := 1000; i > 0; i-- {
		list += strconv.Itoa(i) + "; "
	}
	for s, want := range map[string]string{
		"up 1000":                           list,
		"nat 1000":                          strings.Repeat("S (", 200),
		"let r = ref E in r := N r; r":      strings.Repeat("{N (", 200),
		"let r = ref E in r := N r; (r, r)": "(" + strings.Repeat("{N (", 200),
		"let r = ref E in r := N r; !r":     strings.Repeat("N ({", 200),
		"let r = ref E in r := N r; [N r]":  "[" + strings.Repeat("N ({", 200),
	} {
		if got := value(t, x, s); got != whole(want) {
			t.Errorf("%s: %s", s, got)
		}
	}
	for n, want := range map[int]string{99: strings.Repeat("S (", 99) + "Z" + strings.Repeat(")", 99), 100: strings.Repeat("S (", 100) + "Z" + strings.Repeat(")", 99) + "..."} {
		if got := value(t, x, "nat "+strconv.Itoa(n)); got != want {
			t.Errorf("nat %d: %s", n, got)
		}
	}
}

// P12.1, P1: the type of what is in a constructor may be greater than any type that could be written.
func TestGreatTypes(t *testing.T) {
	many := "'a" + strings.Repeat("*'a", 90)
	x := after(t, made(t, 20000),
		"type 'a t = E | A of ('a * 'a) t | V of 'a ;; let x = E",
		"type 'a u = P | Q of ("+many+") u ;; let y = P",
		"type ('a, 'b) v = L of int | M of ('a * 'b, 'b * 'a) v ;; let z = L 7")
	const deep = 150
	soon(t, "values of great types", func() {
		for n := 1; n <= deep; n++ {
			x = after(t, x, "let x = A x ;; let y = Q y ;; let z = M z")
			for name, c := range map[string][2]string{"x": {"A (", "E"}, "y": {"Q (", "P"}, "z": {"M (", "L (7)"}} {
				want := strings.Repeat(c[0], n) + c[1] + strings.Repeat(")", n)
				if len(want) > 400 {
					want = want[:400] + "..."
				}
				if got := value(t, x, name); got != want {
					t.Errorf("%s: %s, not %s", name, got, want)
				}
			}
		}
	})
}

// P12.1: constructors, of which there are more than numbers for them.
func TestManyConstructors(t *testing.T) {
	x := made(t, 2000)
	for i := range 100002 {
		x.Env.Cons = append(x.Env.Cons, infer.Con{Name: "C" + strconv.Itoa(i), Type: "c", Has: i%2 == 0, T: of("int")})
	}
	mustTell(t, x, "type z = Y | Z of int | X of bool ;; (Y, Z 5, X true, C2 7, C1) ;; match Z 5 with X b -> 0 | Y -> 1 | Z a -> a", enough, "- : z * z * z * c * c = (Y, Z (5), X (true), C2 (7), C1); - : int = 5")
}

// P12.2: a world without a machine.
func TestNoMachine(t *testing.T) {
	env := made(t, 100).Env
	for _, x := range []image.World{{}, {Env: env}} {
		for _, s := range []string{"1", "let", "1 1", ""} {
			for _, fuel := range []int{0, -1, 9, api.MaxFuel + 1} {
				y, o := cell.Run(x, s, fuel)
				if told(o) != "E6" || y.M != nil || len(y.Env.Vals) != len(x.Env.Vals) {
					t.Errorf("Run(%s, %d): %s", s, fuel, told(o))
				}
			}
		}
		for _, ty := range []api.Type{of("int"), {}, of("unit"), of("->", of("int"), of("int"))} {
			if got := cell.Show(x, heap.Num(1), ty); got != "" {
				t.Errorf("Show of %v: %s", ty, got)
			}
		}
	}
}
