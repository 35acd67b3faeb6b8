package types_test

import (
	"math"
	"reflect"
	"slices"
	"testing"

	"battledore/api"
	"battledore/print"
	"battledore/types"
)

// P6.2: Vars.
func TestVars(t *testing.T) {
	for s, want := range map[string][]int{
		"int":                            nil,
		"int -> bool list":               nil,
		"'a":                             {1},
		"'c":                             {3},
		"'a -> 'a":                       {1},
		"'b -> 'a":                       {2, 1},
		"'b -> 'a -> 'b -> 'c":           {2, 1, 3},
		"('z, 'y list, 'z) t":            {26, 25},
		"('c list ref * 'a) -> 'b -> 'c": {3, 1, 2},
	} {
		if got := types.Vars(typ(t, s)); !slices.Equal(got, want) {
			t.Errorf("Vars(%s) = %v, not %v", s, got, want)
		}
	}
	x := of("*", variable(1<<30), variable(7), variable(1<<30), of("list", variable(9)))
	if got := types.Vars(x); !slices.Equal(got, []int{1 << 30, 7, 9}) {
		t.Errorf("Vars = %v", got)
	}
	got := types.Vars(x)
	got[0], got = 5, append(got[:2], 6)
	if again := types.Vars(x); !slices.Equal(again, []int{1 << 30, 7, 9}) {
		t.Errorf("Vars = %v, once a result has been changed", again)
	}
}

// P6.2: Close.
func TestClose(t *testing.T) {
	for _, c := range []struct {
		of   string
		but  []int
		n    int
		want string // where 't0 and 'tN are variables below 0
	}{
		{"int", nil, 0, "int"},
		{"int -> bool", []int{1, 2}, 0, "int -> bool"},
		{"'a", nil, 1, "'a"},
		{"'a", []int{}, 1, "'a"},
		{"'g", nil, 1, "'a"},
		{"'g * 'd * 'g", nil, 2, "'a * 'b * 'a"},
		{"'b -> 'a", nil, 2, "'a -> 'b"},
		{"'b -> 'a", []int{2}, 1, "'t-2 -> 'a"},
		{"'b -> 'a", []int{1}, 1, "'a -> 't-1"},
		{"'b -> 'a", []int{1, 2}, 0, "'t-2 -> 't-1"},
		{"'b -> 'a", []int{2, 1, 2, 1, 1}, 0, "'t-2 -> 't-1"},
		{"'b -> 'a", []int{3, 26, 1 << 30}, 2, "'a -> 'b"}, // they are no variables of it
		{"'b -> 'a", []int{0, -1, -2, math.MinInt, math.MaxInt}, 2, "'a -> 'b"},
		{"'b -> 'a", []int{-2, 0, 2, math.MinInt}, 1, "'t-2 -> 'a"},
		{"('c, 'd list, 'e, 'c) t -> 'd * 'f", []int{4, 9}, 3, "('a, 't-4 list, 'b, 'a) t -> 't-4 * 'c"},
		{"'z list -> ('a -> 'z) -> 'a list", nil, 2, "'a list -> ('b -> 'a) -> 'b list"},
	} {
		but := slices.Clone(c.but)
		got := types.Close(typ(t, c.of), c.but)
		if got.N != c.n || print.Type(got.T) != c.want {
			t.Errorf("Close(%s, %v) = %d, %s, not %d, %s", c.of, c.but, got.N, print.Type(got.T), c.n, c.want)
		}
		if !slices.Equal(but, c.but) {
			t.Errorf("Close(%s, %v) changes the numbers to %v", c.of, but, c.but)
		}
	}
	got := types.Close(of("->", variable(1<<30), variable(1<<30-1)), []int{1 << 30})
	if !reflect.DeepEqual(got, api.Scheme{N: 1, T: of("->", variable(-1<<30), variable(1))}) {
		t.Errorf("Close of the greatest variable = %v", got)
	}
}

// P6.1 and P6.2: what is closed and opened again is the same, but for new variables where there are some.
func TestCloseOpen(t *testing.T) {
	x := typ(t, "'c -> 'a list -> 'b * 'c")
	s := types.New(26)
	if got := s.Open(types.Close(x, []int{1, 2, 3})); !types.Same(got, x) {
		t.Errorf("Open = %s", print.Type(got))
	}
	if got := s.Open(types.Close(x, []int{1})); !s.Unify(x, got) || !types.Same(got.Kids[1].Kids[0], typ(t, "'a list")) {
		t.Errorf("Open = %s", print.Type(got))
	}
	if v := s.Apply(variable(1)); !types.Same(v, variable(1)) {
		t.Errorf("'a is %s", print.Type(v))
	}
}

// P6.2: Same and Alike.
func TestSame(t *testing.T) {
	l := []string{
		"int", "bool", "'a", "'b", "int list", "bool list", "'a list", "int ref", "int list list", "t", "int t", "(int, int) t", "(int, bool) t", "(bool, int) t", "('a, int) t", "('a, 'a) t", "('a, 'b) t", "('b, 'a) t",
		"int -> int", "int * int", "int * int * int", "(int * int) * int", "int * (int * int)", "int -> int -> int", "(int -> int) -> int", "'a -> 'a", "'a -> 'b", "'b -> 'a", "'b -> 'b",
	}
	for i, a := range l {
		for j, b := range l {
			x, y := typ(t, a), typ(t, b)
			if got := types.Same(x, y); got != (i == j) {
				t.Errorf("Same(%s, %s) = %v", a, b, got)
			}
			if got := types.Alike(api.Scheme{N: 2, T: x}, api.Scheme{N: 2, T: y}); got != (i == j) {
				t.Errorf("Alike(%s, %s) = %v", a, b, got)
			}
			if types.Alike(api.Scheme{N: 2, T: x}, api.Scheme{N: 1, T: y}) {
				t.Errorf("Alike(%s, %s) = true, for another number of variables", a, b)
			}
		}
	}
	if types.Same(variable(1), variable(-1)) || types.Same(of("list", variable(3)), of("list", variable(-3))) {
		t.Error("a variable below 0 is the one above 0")
	}
	if !types.Same(variable(-3), variable(-3)) || !types.Same(variable(1<<30), variable(1<<30)) || !types.Same(api.Type{Name: "int", Kids: []api.Type{}}, of("int")) {
		t.Error("Same = false")
	}
}

// P6.1: Size of a type.
func TestSize(t *testing.T) {
	for s, size := range map[string]int{"int": 1, "'a": 1, "int list": 2, "'a -> 'a": 3, "int * bool * int": 4, "('a, int list, 'c) t -> (int -> 'd) * 'a": 11} {
		for most := -2; most < 20; most++ {
			got := types.Size(typ(t, s), most)
			if size < most && got != size || size >= most && got < most {
				t.Errorf("Size(%s, %d) = %d, of %d", s, most, got, size)
			}
		}
		if got := types.Size(typ(t, s), math.MaxInt); got != size {
			t.Errorf("Size(%s) = %d, not %d", s, got, size)
		}
	}
}
