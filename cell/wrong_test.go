package cell_test

import (
	"math"
	"math/rand"
	"slices"
	"strings"
	"testing"

	"battledore/api"
	"battledore/cell"
	"battledore/heap"
	"battledore/image"
	"battledore/infer"
)

// oddTypes are types of which most go with no value, or are none.
func oddTypes() []api.Type {
	i := of("int")
	l := []api.Type{
		{}, {Var: 1}, {Var: -3}, {Var: math.MaxInt}, i, of("bool"), of("unit"), of("string"), of("->"), of("->", i, i), of("*"), of("*", i), of("*", i, i), of("*", i, i, i, i),
		of("list"), of("list", i), of("list", i, i), of("list", of("list", i)), of("ref"), of("ref", i), of("ref", of("ref", i)), of("ref", i, i), of("int", i), of("strange"), of("t"), of("t", i), of("t", i, i), of("u"), of("u", i), of("u", of("u", i)), of("w"), of("w", i), of(" ", i),
	}
	deep := i
	for range 5000 {
		deep = of("list", deep)
	}
	return append(l, deep, of("*", l...), of("u", l...), of("list", of("*", of("string"), of("list", i))))
}

// oddWorld: a world with values that contain themselves, values without a type, and constructors that no declaration makes.
func oddWorld(t *testing.T) image.World {
	t.Helper()
	x := after(t, made(t, 5000), "type 'a u = E | C of 'a u ref | D of 'a ;; let l = [1; 2] ;; let p = (l, l) ;; let r = ref (if true then E else D 1) ;; let s = \"text\" ;; let f = fun x -> x ;; let g = fun x -> (x, r) ;; r := C r ;; let d = D (1, 2) ;; let n = -7")
	h := x.M.Heap()
	pair, _ := h.Put(heap.KTuple, []heap.Word{heap.Num(1), heap.Num(2)}, nil)
	h.SetPart(pair, 1, pair)
	h.SetPart(pair, 0, pair)
	none, _ := h.Put(heap.KTuple, nil, nil)
	con, _ := h.Put(heap.KCon, []heap.Word{pair, pair}, nil)
	self, _ := h.Put(heap.KCon, []heap.Word{heap.Num(3), heap.Num(0)}, nil)
	h.SetPart(self, 1, self)
	short, _ := h.Put(heap.KCon, nil, nil)
	for i, w := range []heap.Word{pair, none, con, self, short} {
		if x.M.Bind(w) != api.OK {
			t.Fatal("Bind")
		}
		x.Env.Vals = append(x.Env.Vals, infer.Val{Name: string(rune('A' + i)), S: api.Scheme{T: oddTypes()[10+i]}})
	}
	x.Env.Cons = append(x.Env.Cons, infer.Con{Name: "", Type: "w", N: 1, Has: true, T: of("w", api.Type{Var: 1})}, infer.Con{Name: "W", Type: "w", N: -1, T: api.Type{Var: 9}}, infer.Con{Name: "V", Type: "u", N: 5, Has: true, T: api.Type{Var: 5}})
	return x
}

// P1: Show of values by types that aren't theirs, and of words that are no values.
func TestShowOdd(t *testing.T) {
	x := oddWorld(t)
	words := append(x.M.Globals(), x.M.Heap().Words()...)
	words = append(words, 0, 1, 2, 3, math.MaxUint64, math.MaxUint64-1, 1<<63, 1<<40, heap.Num(1<<40), heap.Num(-1))
	for w := range heap.Word(2 * x.M.Heap().Used()) {
		words = append(words, w)
	}
	soon(t, "Show", func() {
		for _, ty := range oddTypes() {
			for _, w := range words {
				s := cell.Show(x, w, ty)
				if s == "" || len(s) > api.MaxShow+3 || len(s) > api.MaxShow && !strings.HasSuffix(s, "...") {
					t.Errorf("%d of %.100s: %s", w, ty.Name, s)
				}
				if cell.Show(x, w, ty) != s {
					t.Errorf("%d of %.100s: not always %s", w, ty.Name, s)
				}
				if s := cell.Show(image.World{M: x.M}, w, ty); s == "" || len(s) > api.MaxShow+3 {
					t.Errorf("%d of %.100s, nothing being known: %s", w, ty.Name, s)
				}
			}
		}
	})
}

// changed: an environment that no longer goes with the machine.
func changed(r *rand.Rand, env infer.Env) infer.Env {
	odd := oddTypes()
	env = infer.Env{Types: slices.Clone(env.Types), Arity: slices.Clone(env.Arity), Cons: slices.Clone(env.Cons), Vals: slices.Clone(env.Vals)}
	for range 1 + r.Intn(4) {
		i := r.Intn(1 << 20)
		switch r.Intn(8) {
		case 0:
			env.Vals = env.Vals[:i%(len(env.Vals)+1)]
		case 1:
			env.Cons = env.Cons[:i%(len(env.Cons)+1)]
		case 2:
			env.Arity = env.Arity[:i%(len(env.Arity)+1)]
		case 3:
			env.Types = env.Types[:i%(len(env.Types)+1)]
		case 4:
			env.Vals = append(env.Vals, infer.Val{Name: string(rune('a' + i%26)), S: api.Scheme{N: i%5 - 1, T: odd[i%len(odd)]}})
		case 5:
			env.Cons = append(env.Cons, infer.Con{Name: string(rune('A' + i%26)), Type: "u", N: i % 3, Has: i%2 == 0, T: odd[i%len(odd)]})
		default:
			if n := len(env.Vals); n > 0 {
				env.Vals[i%n].S.T, env.Vals[r.Intn(n)].S.T = env.Vals[r.Intn(n)].S.T, env.Vals[i%n].S.T
			}
		}
	}
	return env
}

// P1, P2: cells in worlds whose environment doesn't go with their machine.
func TestOddWorlds(t *testing.T) {
	r := rand.New(rand.NewSource(1))
	cells := []string{
		"1", "", "l", "p", "r", "s", "f", "g", "d", "n", "f l", "g 1", "r := E", "!r", "s ^ s", "n + 1", "print s", "fail s", "itoa n", "size s", "not true", "ref l", "move n", "turn 1", "l = l", "p = p", "A", "B", "C r", "D 1", "d = d", "f = g", "s = s",
		"match l with a :: b -> a | [] -> 0", "match p with (a, b) -> a", "match d with D a -> a | _ -> (0, 0)", "match !r with E -> 1 | C q -> 2 | D e -> e", "let a = l ;; let b = p ;; a", "type v = X of int ;; X n", "try fail s with e -> e", "let l = f s ;; l ^ s", "fun x -> (x, l, s)", "a", "b ;; c", "(n, s, l, p)", "let rec k x = if x = 0 then n else k (x - 1) ;; k 3",
	}
	soon(t, "Run", func() {
		for range 1000 {
			x := oddWorld(t)
			x.Env = changed(r, x.Env)
			for range 3 {
				s := cells[r.Intn(len(cells))]
				before := x.M.Heap().Words()
				y, o := cell.Run(x, s, 50)
				if _, again := cell.Run(x, s, 50); !sameOutcome(o, again) {
					t.Errorf("%s: %s, then %s", s, told(o), told(again))
				}
				if !slices.Equal(x.M.Heap().Words(), before) || o.E != api.OK && (y.M != x.M || len(o.Binds) > 0) {
					t.Errorf("%s: %s, and another world", s, told(o))
				}
				x = y
			}
		}
	})
}

// P1: texts that are no cells.
func TestOddCells(t *testing.T) {
	r := rand.New(rand.NewSource(2))
	x := oddWorld(t)
	x.Env = after(t, made(t, 100), "type t = A of int | B").Env
	pieces := []string{"let", "rec", "in", "fun", "if", "then", "else", "match", "with", "try", "type", "of", "mod", "true", "->", ":=", ";;", "::", "(", ")", "[", "]", ",", ";", "|", "=", "+", "-", "!", "_", "x", "f", "A", "B", "1", "'a", "\"s\"", " ", "\xff", "(*", "print", "ref", "()"}
	soon(t, "Run", func() {
		for range 20000 {
			var l []string
			for range r.Intn(12) {
				l = append(l, pieces[r.Intn(len(pieces))])
			}
			s := strings.Join(l, " ")
			_, o := cell.Run(x, s, r.Intn(50))
			if o.E != api.OK && len(o.Binds) > 0 || o.At < 0 || o.At > len(s) || o.E == api.OK && o.At > 0 {
				t.Errorf("%s: %s", s, told(o))
			}
		}
	})
}
