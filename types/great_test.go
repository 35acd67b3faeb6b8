package types_test

import (
	"math"
	"runtime"
	"runtime/debug"
	"slices"
	"testing"

	"battledore/api"
	"battledore/types"
)

// double makes each of n variables from the one numbered first on stand for two of the next one; backwards, or not. 1 + 2 + 4 .. parts it is.
func double(t *testing.T, s *types.Subst, first, n int, back bool) {
	t.Helper()
	for i := range n {
		v := first + i
		if back {
			v = first + n - 1 - i
		}
		if !s.Unify(variable(v), of("*", variable(v+1), variable(v+1))) {
			t.Fatalf("%d doublings: false", n)
		}
	}
}

// P6.1: Size is exact where Apply would return very many parts.
func TestGreatSize(t *testing.T) {
	for _, back := range []bool{false, true} {
		for _, n := range []int{1, 10, 50, 61} {
			s := types.New(1000)
			double(t, s, 1, n, back)
			size := 1<<(n+1) - 1
			for _, most := range []int{size + 1, size + 5, math.MaxInt - 1, math.MaxInt} {
				if got := s.Size(variable(1), most); got != size {
					t.Errorf("Size of %d doublings, at most %d, = %d", n, most, got)
				}
			}
			for _, most := range []int{0, 1, 2, size - 1, size} {
				if got := s.Size(variable(1), most); got < most {
					t.Errorf("Size of %d doublings, at most %d, = %d", n, most, got)
				}
			}
			x := of("->", variable(1), of("list", variable(2)))
			if n <= 50 && s.Size(x, math.MaxInt) != 1+size+1+(size-1)/2 {
				t.Errorf("Size of %d doublings within another type = %d", n, s.Size(x, math.MaxInt))
			}
		}
		for _, n := range []int{62, 63, 64, 65, 1000} { // 62 have math.MaxInt parts
			s := types.New(2000)
			double(t, s, 1, n, back)
			for _, most := range []int{100, 1 << 50, math.MaxInt - 1, math.MaxInt} {
				if got := s.Size(variable(1), most); got < most {
					t.Errorf("Size of %d doublings, at most %d, = %d", n, most, got)
				}
			}
		}
	}
	s := types.New(0)
	double(t, s, 1, 40, false)
	if !s.Unify(variable(41), of("list", of("int"))) || s.Size(variable(1), math.MaxInt) != 1<<40-1+2<<40 {
		t.Errorf("Size = %d, once the last one is a list", s.Size(variable(1), math.MaxInt))
	}
}

// P6.1: Unify of types of very many parts, whatever comes first.
func TestGreatUnify(t *testing.T) {
	for _, back := range []bool{false, true} {
		for _, n := range []int{50, 500} {
			s := types.New(5000)
			double(t, s, 1, n, back)
			double(t, s, 1001, n, !back)
			double(t, s, 2001, n, false)
			if !s.Unify(variable(1), variable(1001)) || !s.Unify(variable(1001), variable(2001)) || !s.Unify(variable(1), variable(2001)) || !s.Unify(variable(1), variable(1)) {
				t.Fatalf("%d doublings are not the same", n)
			}
			if !s.Unify(variable(1+n), of("int")) || s.Apply(variable(2001+n)).Name != "int" || s.Size(s.Apply(variable(1001+n-3)), 100) != 15 {
				t.Errorf("the ends of %d doublings are not the same", n)
			}
			if s.Unify(variable(2001+n), of("bool")) {
				t.Errorf("the end of %d doublings is two types", n)
			}
		}
		for _, n := range []int{50, 500} {
			s := types.New(5000)
			double(t, s, 1, n, back)
			double(t, s, 1001, n, back)
			if !s.Unify(variable(1+n), of("int")) || !s.Unify(variable(1001+n), of("bool")) || s.Unify(variable(1), variable(1001)) {
				t.Errorf("%d doublings with another end are the same", n)
			}
		}
		for _, n := range []int{50, 500} {
			s := types.New(5000)
			double(t, s, 1, n, back)
			double(t, s, 1001, n, back)
			if s.Unify(of("*", variable(1), variable(1)), of("*", variable(1001), variable(1002))) {
				t.Errorf("%d doublings are as many as one less", n)
			}
			s = types.New(5000)
			double(t, s, 1, n, back)
			if s.Unify(variable(1+n), of("list", variable(1))) {
				t.Errorf("%d doublings occur in themselves", n)
			}
		}
	}
}

// P6.1: all at once: ('1 * '1) * ('2 * '2) .. and '2 * '3 ..
func TestGreatPairs(t *testing.T) {
	a, b := of("*"), of("*")
	const n = 300
	for v := range n {
		a.Kids = append(a.Kids, of("->", variable(v+1), variable(v+1)))
		b.Kids = append(b.Kids, variable(v+2))
	}
	for range 2 {
		s := types.New(n + 1)
		if !s.Unify(a, b) || s.Size(variable(n+1), 1<<50) < 1<<50 || s.Size(variable(21), 1<<50) != 1<<21-1 {
			t.Errorf("Size = %d", s.Size(variable(21), 1<<50))
		}
		slices.Reverse(a.Kids)
		slices.Reverse(b.Kids)
	}
}

// P6.1: a type of many parts, with many of a variable that stands for many.
func TestWide(t *testing.T) {
	const n = 50000
	ints, ones := of("*"), of("*")
	for range n {
		ints.Kids = append(ints.Kids, of("int"))
		ones.Kids = append(ones.Kids, variable(1))
	}
	s := types.New(2)
	if !s.Unify(variable(1), ints) || !s.Unify(variable(2), ones) || s.Size(variable(2), math.MaxInt) != 1+n*(1+n) {
		t.Errorf("Size = %d", s.Size(variable(2), math.MaxInt))
	}
	if s.Unify(variable(1), of("list", variable(2))) {
		t.Error("a product is a list")
	}
}

// P6.1: a long row of variables, each of which stands for the next one.
func TestLongRow(t *testing.T) {
	const n = 100000
	for _, back := range []bool{false, true} {
		for _, turned := range []bool{false, true} {
			s := types.New(n + 1)
			for i := range n {
				v := 1 + i
				if back {
					v = n - i
				}
				a, b := variable(v), variable(v+1)
				if turned {
					a, b = b, a
				}
				if !s.Unify(a, b) {
					t.Fatal("false")
				}
			}
			if !s.Unify(variable(n/2), of("int")) {
				t.Fatal("false")
			}
			for v := range n + 1 {
				if s.Apply(variable(v+1)).Name != "int" {
					t.Fatalf("the variable %d is no int", v+1)
				}
			}
		}
	}
}

// P1 and P6: types nested more deeply than calls may be.
func TestDeep(t *testing.T) {
	defer debug.SetMaxStack(debug.SetMaxStack(1 << 20))
	const n = 300000
	x, y := chain(n, variable(1)), chain(n, variable(2))
	s := types.New(3)
	if !s.Unify(variable(3), x) || !s.Unify(variable(3), y) || !s.Unify(x, y) {
		t.Fatal("false")
	}
	if s.Size(variable(3), math.MaxInt) != n+1 || types.Size(x, math.MaxInt) != n+1 || s.Size(y, 10) < 10 {
		t.Error("Size")
	}
	if !s.Unify(variable(2), of("int")) || !types.Same(s.Apply(variable(3)), chain(n, of("int"))) || types.Same(s.Apply(x), x) {
		t.Error("Apply")
	}
	if v := types.Vars(x); !slices.Equal(v, []int{1}) {
		t.Errorf("Vars = %v", v)
	}
	c := types.Close(y, nil)
	if c.N != 1 || !types.Same(c.T, x) || !types.Alike(c, api.Scheme{N: 1, T: x}) || types.Alike(c, api.Scheme{N: 1, T: y}) {
		t.Error("Close, or Alike")
	}
	if o := s.Open(c); !types.Same(o, chain(n, variable(4))) {
		t.Error("Open")
	}
	if s.Unify(x, chain(n+1, of("int"))) {
		t.Error("an int is a list")
	}
	if s.Unify(variable(1), x) {
		t.Error("a type within itself")
	}
}

// used: the bytes that are in use.
func used() uint64 {
	var m runtime.MemStats
	runtime.GC()
	runtime.ReadMemStats(&m)
	return m.HeapAlloc
}

// The rule that no more is kept than is needed: a substitution keeps what its variables stand for, and not what was passed.
func TestKept(t *testing.T) {
	s := types.New(9)
	if !equate(t, s, "'a = int list; 'a = 'b list; 'c = 'd; 'e = int * 'd") {
		t.Fatal("false")
	}
	x := typ(t, "('b * 'a * 'c -> 'd) -> (int * int * int * int) t")
	for i, again := range []func() bool{
		func() bool { return s.Unify(variable(2), of("int")) }, // '2 stands for what is in '1 too
		func() bool { return s.Unify(of("int"), variable(2)) },
		func() bool { return s.Unify(variable(1), of("list", of("int"))) },
		func() bool { return s.Unify(of("*", of("int"), variable(3)), variable(5)) },
		func() bool { return s.Unify(x, x) },
		func() bool { return s.Unify(s.Open(api.Scheme{T: x}), s.Apply(x)) },
		func() bool { return s.Size(x, 1000) == 14 },
	} {
		before := used()
		for range 20000 {
			if !again() {
				t.Fatalf("%d: false", i)
			}
		}
		if after := used(); after > before+1<<18 {
			t.Errorf("%d: it keeps %d bytes more", i, after-before)
		}
	}
	runtime.KeepAlive(s)
}
