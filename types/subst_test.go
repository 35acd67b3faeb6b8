package types_test

import (
	"math"
	"reflect"
	"strings"
	"testing"

	"battledore/api"
	"battledore/print"
	"battledore/types"
)

// P6.1: what Unify makes equal, and what Apply returns of it.
func TestUnify(t *testing.T) {
	for _, c := range []struct{ equations, of, want string }{
		{"'a -> int = bool -> 'b", "'a * 'b", "bool * int"}, // the chapter's example
		{"int = int", "'a", "'a"},
		{"'a = 'a", "'a * 'b", "'a * 'b"},
		{"'a = int", "'a * 'b", "int * 'b"},
		{"int = 'a", "'a * 'b", "int * 'b"},
		{"'a list = int list", "'a", "int"},
		{"'a = 'b; 'b = int", "'a * 'b", "int * int"},
		{"'a = 'b; 'a = int", "'a * 'b", "int * int"},
		{"'a = 'b; int = 'b; 'a = int", "'a * 'b", "int * int"},
		{"'a = 'b; 'b = 'c; 'c = 'a; 'b = 'a; 'a = 'b; 'b = int", "'a * 'b * 'c", "int * int * int"},
		{"'a = 'b; 'c = 'd; 'a = 'd; 'b = 'c; 'c = int", "'a * 'b * 'c * 'd", "int * int * int * int"},
		{"'a = 'b list; 'b = 'c ref; 'c = int", "'a", "int ref list"}, // repeatedly
		{"'c = int; 'b = 'c ref; 'a = 'b list", "'a", "int ref list"},
		{"'a * 'b = 'b * int", "'a * 'b", "int * int"},
		{"'a -> 'a = ('b -> int) -> bool -> int", "'a * 'b", "(bool -> int) * bool"},
		{"'a -> 'b -> 'a = 'c -> 'c -> int", "'a * 'b * 'c", "int * int * int"},
		{"'a * 'a list = 'b * int list", "'a * 'b", "int * int"},
		{"'a * 'b * 'c = 'b * 'c * int", "'a * 'b * 'c", "int * int * int"},
		{"('a, 'b) t = ('b list, int) t", "'a * 'b", "int list * int"},
		{"'a list = 'b list; 'c list = 'b list; 'b = bool", "'a * 'b * 'c", "bool * bool * bool"},
		{"'a = 'b list; 'a = 'c list; 'c = int", "'a * 'b", "int list * int"}, // what stands for one variable is made equal
		{"'a = 'b * int; 'a = bool * 'c", "'a * 'b * 'c", "(bool * int) * bool * int"},
		{"'a = 'b list; 'c = 'd list; 'a = 'c; 'd = int; 'e = 'a", "'b * 'e", "int * int list"},
		{"'a = 'b -> 'c; 'a = 'c -> 'b; 'b = int", "'a", "int -> int"},
		{"'a = int list; 'b = 'a; 'b = 'c list", "'c", "int"},
	} {
		s := types.New(26)
		if !equate(t, s, c.equations) {
			t.Errorf("%s: false", c.equations)
			continue
		}
		if got := print.Type(s.Apply(typ(t, c.of))); got != print.Type(typ(t, c.want)) {
			t.Errorf("%s: %s is %s, not %s", c.equations, c.of, got, c.want)
		}
	}
}

// P6.1: types that nothing makes equal; the last equation is the one that has no solution.
func TestNotUnified(t *testing.T) {
	for _, equations := range []string{
		"int = bool",
		"int = int list",
		"int list = int ref",
		"int list = bool list",
		"int -> int = int * int",
		"int * int = int * int * int", // the same name, with more Kids
		"int t = (int, int) t",
		"t = int t",
		"'a -> 'a = int -> bool",
		"'a * 'b * 'a = int * 'a * bool",
		"'a = int; 'a = bool",
		"'a = int; bool = 'a",
		"'a = 'b; 'a = int; 'b = bool",
		"'a = 'b list; 'a = int",
		"'a = 'b list; 'a = 'c ref",
		"'a = 'a list", // a variable within itself
		"'a list = 'a",
		"'a = int * 'a",
		"'a -> 'b = 'b -> 'a list",
		"'a = 'b; 'b = 'a list",
		"'a = 'b; 'a = 'b list",
		"'a = 'b list; 'b = 'a",
		"'a = 'b list; 'b = 'a list",
		"'b = 'a list; 'a = 'c ref; 'c = int * 'b",
		"'a * 'b = 'b list * 'a list",
		"'a list = 'b; 'b = 'c; 'c = 'a",
		"'a = 'b -> 'c; 'a = 'c -> ('b list)", // only once both of 'a are made equal
		"'a = 'b list; 'c = 'd list; 'b = 'c; 'a = 'd",
		"int * 'a = int * ('a * 'a)",
	} {
		s := types.New(26)
		ahead := strings.LastIndex(equations, ";")
		if ahead > 0 && !equate(t, s, equations[:ahead]) {
			t.Errorf("%s: false ahead of the last one", equations)
		} else if equate(t, s, equations[ahead+1:]) {
			t.Errorf("%s: true", equations)
		}
	}
}

// P1: after false the contents are unspecified, but each call ends, and Fresh is still new.
func TestAfterFalse(t *testing.T) {
	for _, equations := range []string{
		"'a = 'b list; 'c = 'a; 'b = 'a",
		"'a = 'b * 'b; 'b = 'c * 'a",
		"'a * 'b * 'c = 'b list * 'c list * 'a list",
		"'a = int; 'a * 'b = bool * 'b list",
	} {
		s := types.New(26)
		s.Fresh()
		if equate(t, s, equations) {
			t.Fatalf("%s: true", equations)
		}
		x := typ(t, "'a * 'b * 'c")
		s.Apply(x)
		s.Size(x, math.MaxInt)
		s.Unify(x, typ(t, "'b * 'c * 'a"))
		s.Unify(x, typ(t, "int * 'd list * 'a"))
		s.Apply(x)
		if v := s.Fresh(); v.Name != "" || v.Var != 28 {
			t.Errorf("%s: Fresh = %v", equations, v)
		}
		again := types.New(26)
		if !again.Unify(typ(t, "'a"), typ(t, "int")) || print.Type(again.Apply(typ(t, "'a"))) != "int" {
			t.Error("another substitution is not what it was")
		}
	}
}

// P6.1: types are equal by Name and Kids, or by their variable; nothing else of them counts.
func TestEqual(t *testing.T) {
	s := types.New(3)
	if !s.Unify(api.Type{Name: "int", Var: 1}, api.Type{Name: "int", Var: 2, Kids: []api.Type{}}) {
		t.Error("two ints with a Var are not equal")
	}
	if !s.Unify(variable(1<<30), of("int")) || !types.Same(s.Apply(variable(1<<30)), of("int")) {
		t.Error("the greatest variable")
	}
	if !s.Unify(variable(7), variable(8)) || !types.Same(s.Apply(variable(7)), s.Apply(variable(8))) {
		t.Error("variables that Fresh has not returned")
	}
	if got := s.Apply(variable(9)); !reflect.DeepEqual(got, variable(9)) {
		t.Errorf("Apply = %v", got)
	}
}

// P6.1: New and Fresh.
func TestFresh(t *testing.T) {
	for _, n := range []int{0, 1, 26, 1 << 20, 1 << 30} {
		s := types.New(n)
		for i := range 3 {
			if v := s.Fresh(); !reflect.DeepEqual(v, variable(n+1+i)) {
				t.Errorf("New(%d): Fresh = %v", n, v)
			}
			s.Unify(variable(n+1+i), variable(1))
			s.Apply(variable(n + 1 + i))
			s.Size(variable(n+1+i), 10)
		}
	}
	a, b := types.New(0), types.New(0)
	if v, w := a.Fresh(), a.Fresh(); v.Var != 1 || w.Var != 2 || b.Fresh().Var != 1 {
		t.Error("two substitutions count together")
	}
	if !a.Unify(variable(1), of("int")) || !b.Unify(variable(1), of("bool")) {
		t.Error("two substitutions are one")
	}
}

// P6.1: a substitution has nothing at first.
func TestApply(t *testing.T) {
	for _, c := range []string{"'a", "int", "'a -> 'b list -> 'a", "('a, int, 'c) t * int * 'b", "(int -> int) * t"} {
		if got := types.New(0).Apply(typ(t, c)); !reflect.DeepEqual(got, typ(t, c)) {
			t.Errorf("Apply(%s) = %s", c, print.Type(got))
		}
	}
}

// P6.1: Open.
func TestOpen(t *testing.T) {
	s := types.New(100)
	if !equate(t, s, "'a = int; 'c = bool") {
		t.Fatal("'a = int: false")
	}
	met := map[int]struct{}{}
	for _, c := range []struct {
		n    int
		t    api.Type
		want string // a and b stand for the first and the second new one
	}{
		{0, typ(t, "int -> int"), "int -> int"},
		{0, variable(-1), "'a"}, // it is not applied
		{1, typ(t, "'a -> 'a"), "a -> a"},
		{2, typ(t, "'a -> 'b list -> 'a"), "a -> b list -> a"},
		{2, typ(t, "('b, 'a) t -> 'b"), "(a, b) t -> a"},
		{1, of("->", variable(1), variable(-1)), "a -> 'a"},
		{2, of("*", variable(-2), variable(2), variable(1), variable(-2), variable(2)), "'b * a * b * 'b * a"},
		{3, of("->", variable(3), variable(1)), "a -> b"},
		{1, of("*", variable(-(1 << 30)), variable(1)), "'t1073741824 * a"},
		{1, of("*", variable(1), variable(1), of("list", variable(1))), "a * a * a list"},
		{1 << 30, of("*", variable(1), variable(1<<30)), "a * b"},
		{1, of("->", variable(1), variable(2)), "a -> 'b"}, // 'b is none of the scheme's
		{0, of("list", variable(5)), "'e list"},
	} {
		given := print.Type(c.t)
		got := s.Open(api.Scheme{N: c.n, T: c.t})
		if spelt := spell(got, 100); spelt != c.want {
			t.Errorf("Open(%d, %s) = %s, not %s", c.n, given, spelt, c.want)
		}
		for _, v := range types.Vars(got) {
			if _, ok := met[v]; ok && v > 100 && v < 1<<30 {
				t.Errorf("Open(%d, %s): the variable %d is not new", c.n, given, v)
			}
			met[v] = struct{}{}
		}
		if v := s.Fresh().Var; v <= 100 {
			t.Errorf("Fresh = %d", v)
		} else if _, ok := met[v]; ok {
			t.Errorf("Fresh = %d, which Open has returned", v)
		} else {
			met[v] = struct{}{}
		}
	}
}

// P6.1: what Open has returned is unified without the others.
func TestOpenTwice(t *testing.T) {
	s := types.New(0)
	c := api.Scheme{N: 1, T: typ(t, "'a -> 'a")}
	x, y := s.Open(c), s.Open(c)
	if !s.Unify(x, typ(t, "int -> int")) || !s.Unify(y, typ(t, "bool -> bool")) {
		t.Fatal("the new variables are the same")
	}
	if got := print.Type(s.Apply(of("*", x, y, s.Open(c).Kids[0]))); got != "(int -> int) * (bool -> bool) * 'c" {
		t.Errorf("they are %s", got)
	}
}

// P6.1: Size of a Subst.
func TestSizeOf(t *testing.T) {
	for _, c := range []struct {
		equations, of string
		size          int
	}{
		{"int = int", "int", 1},
		{"int = int", "'a", 1},
		{"int = int", "'a -> 'a", 3},
		{"int = int", "('a, int, 'c) t * int * 'b list", 8},
		{"'a = int", "'a", 1},
		{"'a = int list", "'a", 2},
		{"'a = int list", "'a * 'a * 'b", 6},
		{"'a = 'b; 'b = 'c -> 'c; 'c = 'd list", "'a * 'b * 'c * 'd", 14},
		{"'a list = 'b; 'b list = 'c; 'c * 'b = 'd", "'d -> 'd", 13},
	} {
		s := types.New(26)
		if !equate(t, s, c.equations) {
			t.Fatalf("%s: false", c.equations)
		}
		x := typ(t, c.of)
		for most := -2; most < 20; most++ {
			got := s.Size(x, most)
			if c.size < most && got != c.size || c.size >= most && got < most {
				t.Errorf("%s: Size(%s, %d) = %d, of %d", c.equations, c.of, most, got, c.size)
			}
		}
		for _, most := range []int{1 << 20, 1 << 50, math.MaxInt} {
			if got := s.Size(x, most); got != c.size {
				t.Errorf("%s: Size(%s, %d) = %d, not %d", c.equations, c.of, most, got, c.size)
			}
		}
		if got := types.Size(s.Apply(x), 100); got != c.size {
			t.Errorf("%s: Apply(%s) has %d parts, not %d", c.equations, c.of, got, c.size)
		}
	}
}

// P1: a nil Subst, by the rule about nil objects.
func TestNil(t *testing.T) {
	var s *types.Subst
	for _, x := range []api.Type{{}, variable(1), typ(t, "int -> 'a")} {
		if got := s.Fresh(); !reflect.DeepEqual(got, api.Type{}) {
			t.Errorf("Fresh = %v", got)
		}
		if got := s.Apply(x); !reflect.DeepEqual(got, api.Type{}) {
			t.Errorf("Apply = %v", got)
		}
		if s.Unify(x, x) {
			t.Error("Unify: true")
		}
		if got := s.Open(api.Scheme{N: 1, T: x}); !reflect.DeepEqual(got, api.Type{}) {
			t.Errorf("Open = %v", got)
		}
		if got := s.Size(x, 10); got != 0 {
			t.Errorf("Size = %d", got)
		}
	}
}

// P1: numbers and types that are not of the form; each call ends.
func TestAnything(t *testing.T) {
	numbers := []int{math.MinInt, math.MinInt + 1, -1 << 30, -1, 0, 1, 2, 1 << 30, math.MaxInt - 1, math.MaxInt}
	l := []api.Type{{}, {Kids: []api.Type{{Name: "int"}}}, of("->"), of("*"), of("list"), of("int", of("int")), of("->", of("->")), of("\x00 'a")}
	for _, n := range numbers {
		l = append(l, variable(n), of("->", variable(n), variable(n)))
	}
	for _, n := range numbers {
		for _, x := range l {
			s := types.New(n)
			s.Fresh()
			for _, y := range l {
				s.Unify(x, y)
				types.Same(x, y)
				types.Alike(api.Scheme{N: n, T: x}, api.Scheme{N: n, T: y})
				s.Apply(y)
				s.Size(y, n)
			}
			s.Open(api.Scheme{N: n, T: x})
			s.Fresh()
			types.Vars(x)
			types.Size(x, n)
			types.Close(x, numbers)
			types.Close(x, []int{n})
		}
	}
}

// The rule about memory, and P2: arguments stay as they are and are not retained, results are new.
func TestMemory(t *testing.T) {
	results := func() []api.Type {
		s := types.New(26)
		x, y := typ(t, "('a, 'b list, int) t -> 'a"), typ(t, "'c -> (int -> 'd)")
		beforeX, beforeY := copied(x), copied(y)
		if !s.Unify(x, y) {
			t.Fatal("false")
		}
		if !reflect.DeepEqual(x, beforeX) || !reflect.DeepEqual(y, beforeY) {
			t.Fatal("Unify changes its arguments")
		}
		spoil(x)
		spoil(y)
		z := typ(t, "'c * 'a * 'c * ('a list -> int)")
		beforeZ := copied(z)
		c := api.Scheme{N: 2, T: z}
		l := []api.Type{s.Apply(z), s.Apply(z), s.Open(c), s.Open(c), types.Close(z, []int{1}).T}
		s.Size(z, 20)
		types.Size(z, 20)
		if !reflect.DeepEqual(z, beforeZ) {
			t.Fatal("an argument is changed")
		}
		spoil(z)
		return append(l, s.Apply(typ(t, "'c * 'a")), s.Apply(variable(3)))
	}
	want, got := results(), results()
	if !reflect.DeepEqual(want, got) {
		t.Fatalf("the same calls return another thing: %v, %v", want, got)
	}
	for i := range got {
		spoil(got[i])
		for j := i + 1; j < len(got); j++ {
			if !reflect.DeepEqual(got[j], want[j]) {
				t.Fatalf("the results %d and %d share memory", i, j)
			}
		}
	}
	for i, x := range want { // each slice of a result is its own
		mark(x, i*1000)
		if n := marked(x, i*1000); n < 0 {
			t.Errorf("two slices of the result %d share memory", i)
		}
	}
}

// mark numbers the places of all kids.
func mark(x api.Type, n int) int {
	for i := range x.Kids {
		x.Kids[i].Var = n
		n = mark(x.Kids[i], n+1)
	}
	return n
}

// marked: are the places of all kids numbered so? -1 if not.
func marked(x api.Type, n int) int {
	for i := range x.Kids {
		if n < 0 || x.Kids[i].Var != n {
			return -1
		}
		n = marked(x.Kids[i], n+1)
	}
	return n
}
