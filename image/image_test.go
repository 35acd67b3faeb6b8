package image_test

import (
	"bytes"
	"math"
	"math/rand"
	"reflect"
	"runtime/debug"
	"slices"
	"strings"
	"testing"

	"battledore/api"
	"battledore/code"
	"battledore/heap"
	"battledore/image"
	"battledore/infer"
	"battledore/octet"
)

// someCells leave functions, refs, types, and things that nothing reaches.
var someCells = []string{
	`let x = 5 ;; "gone" ;; let s = "some letters" ^ itoa x`,
	`type 'a tree = Leaf | Node of ('a tree * 'a * 'a tree) ;; type ('a, 'b) pair = Pair of ('a * 'b)`,
	`let rec add t n = match t with Leaf -> Node (Leaf, n, Leaf) | Node (l, m, r) -> if n < m then Node (add l n, m, r) else Node (l, m, add r n)`,
	`let cell = ref (add Leaf 4) ;; let id = fun x -> x ;; let none = []`,
	`cell := add !cell 7; cell := add !cell 2 ;; let old = !cell`,
	`let x = (s, s, cell) ;; let f = let k = ref 0 in fun n -> (k := !k + n; !k) ;; f 3`,
	`f 4 ;; let y = Pair (x, fun a -> a + 1) ;; let rec loop n = if n = 0 then "end" else loop (n - 1) ;; loop 50`,
	`fail "nothing of this stays" ;; cell := Leaf`,
	`print (itoa (f 10)) ;; match !cell with Node (_, n, _) -> n | Leaf -> 0`,
}

// P11.1: New.
func TestNew(t *testing.T) {
	for _, c := range []struct {
		quota int
		e     api.Errno
	}{{16, api.OK}, {api.MaxWords, api.OK}, {15, api.ErrMem}, {1, api.ErrMem}, {0, api.ErrArg}, {-1, api.ErrArg}, {api.MaxWords + 1, api.ErrArg}} {
		x, e := image.New(c.quota)
		if e != c.e || (x.M != nil) != (e == api.OK) {
			t.Errorf("New(%d): %d", c.quota, e)
		}
		if e != api.OK {
			if !reflect.DeepEqual(x, image.World{}) {
				t.Errorf("New(%d): %v", c.quota, x)
			}
			continue
		}
		h := x.M.Heap()
		if !reflect.DeepEqual(x.Env, infer.Base()) || h.Quota() != c.quota || h.Used() != 16 || len(x.M.Globals()) != 8 || len(x.M.Funs()) != 0 {
			t.Errorf("New(%d): %v", c.quota, x.Env)
		}
		for i, w := range x.M.Globals() {
			if n, _ := h.Part(w, 0); h.Kind(w) != heap.KPrim || n != heap.Num(int64(i)) {
				t.Errorf("the global %d is %s", i, show(h, w, 2))
			}
		}
	}
}

// P11.1, P11.2: what is saved is loaded, and saved as the same bytes; to save changes nothing.
func TestSaveLoad(t *testing.T) {
	x := made(t, 1000)
	for i := -1; i < len(someCells); i++ {
		what := "new"
		if i >= 0 {
			what = someCells[i]
			x, _ = cell(t, x, what)
		}
		before := stateOf(x)
		p := image.Save(x)
		if len(p) == 0 || !bytes.Equal(image.Save(x), p) {
			t.Errorf("%s: other bytes, saved again", what)
		}
		mustBe(t, what, x, before)
		if x.M.Heap().Collections() != before.collections {
			t.Errorf("%s: collected", what)
		}
		y := loaded(t, p)
		mustBe(t, what, y, stateOf(tidy(x)))
		if !bytes.Equal(image.Save(y), p) || !bytes.Equal(image.Save(tidy(x)), p) {
			t.Errorf("%s: other bytes, loaded and saved", what)
		}
		inner, e := octet.Open(p)
		if e != api.OK || !bytes.Equal(octet.Seal(inner), p) {
			t.Errorf("%s: not sealed: %d", what, e)
		}
	}
	if len(x.M.Funs()) < 15 || x.M.Heap().Used() <= tidy(x).M.Heap().Used() {
		t.Error("the cells leave little")
	}
}

// P11.2: a world that is loaded goes on like the one that was saved, and whenever they are saved and loaded they come to the same bytes.
func TestSameBytes(t *testing.T) {
	for _, quota := range []int{150, 200, 260, 330, 420, 1000, 10000} {
		for way := range 1 << len(someCells) {
			if way%7 != 0 && way != 1<<len(someCells)-1 {
				continue
			}
			x, y := made(t, quota), made(t, quota)
			for i, s := range someCells { // where there is little room, some fail, and others have no types then
				if way>>i&1 == 1 {
					y = loaded(t, image.Save(y))
				}
				var a, b string
				x, a = cell(t, x, s)
				y, b = cell(t, y, s)
				if a != b {
					t.Fatalf("%d words, way %d, %s: %s, not %s", quota, way, s, b, a)
				}
				if !bytes.Equal(image.Save(x), image.Save(y)) {
					t.Fatalf("%d words, way %d, %s: other bytes", quota, way, s)
				}
			}
		}
	}
}

// P11.2: how much room is left is the same, too.
func TestSameRoom(t *testing.T) {
	ends := map[byte]int{}
	for quota := 40; quota < 120; quota++ {
		x := cells(t, made(t, quota), `"gone" ;; "gone, too"`, `let r = ref [0] ;; r := [1; 2; 3] ;; "gone once more"`)
		y := loaded(t, image.Save(x))
		for range 4 {
			var a, b string
			x, a = cell(t, x, `r := 4 :: 5 :: !r ;; let k = "012345678901234567890123456789"`)
			y, b = cell(t, y, `r := 4 :: 5 :: !r ;; let k = "012345678901234567890123456789"`)
			if a != b {
				t.Errorf("%d words: %s, not %s", quota, b, a)
			}
			ends[a[0]]++
		}
		if !bytes.Equal(image.Save(x), image.Save(y)) {
			t.Errorf("%d words: other bytes", quota)
		}
	}
	if ends['E'] < 20 || ends['0'] < 50 {
		t.Errorf("%v", ends)
	}
}

// P11.1: worlds that differ have other bytes.
func TestOtherBytes(t *testing.T) {
	seen := map[string]string{}
	add := func(what string, x image.World) {
		p := string(image.Save(x))
		if other, ok := seen[p]; ok {
			t.Errorf("%s and %s have the same bytes", what, other)
		}
		seen[p] = what
		mustBe(t, what, loaded(t, []byte(p)), stateOf(tidy(x)))
	}
	x := made(t, 100)
	add("100 words", x)
	add("101 words", made(t, 101))
	for _, s := range []string{"1", "2", "let x = 1", "let x = 2", "let y = 1", "let x = true", "let x = \"\"", "let x = ref 1", "let x = []", "type t = A", "type t = B", "type u = A", "type 'a t = A", "type t = A of int", "type t = A of string", "type t = A of (int * int)", "type t = A | B", "fun x -> x", "let x = fun y -> y", "let x = fun y -> y + 0"} {
		add(s, cells(t, x, s))
	}
	env := infer.Base()
	for _, change := range []func(e *infer.Env){
		func(e *infer.Env) { e.Types = append(e.Types, "t") },
		func(e *infer.Env) { e.Arity = append(e.Arity, 0) },
		func(e *infer.Env) { e.Arity = append(e.Arity, -1) },
		func(e *infer.Env) { e.Arity = append(e.Arity, math.MaxInt) },
		func(e *infer.Env) { e.Arity = append(e.Arity, math.MinInt) },
		func(e *infer.Env) { e.Arity = nil },
		func(e *infer.Env) { e.Types = nil },
		func(e *infer.Env) { e.Cons = []infer.Con{{}} },
		func(e *infer.Env) { e.Cons = []infer.Con{{Has: true}} },
		func(e *infer.Env) { e.Cons = []infer.Con{{N: -3}} },
		func(e *infer.Env) { e.Cons = []infer.Con{{Name: "a"}} },
		func(e *infer.Env) { e.Cons = []infer.Con{{Type: "a"}} },
		func(e *infer.Env) { e.Cons = []infer.Con{{T: api.Type{Name: "a"}}} },
		func(e *infer.Env) { e.Vals[0].Name = strings.Repeat("\x00", 3000) },
		func(e *infer.Env) { e.Vals[1].S.N = -7 },
		func(e *infer.Env) { e.Vals[2].S.T = api.Type{} },
		func(e *infer.Env) { e.Vals[2].S.T = api.Type{Var: -5} },
		func(e *infer.Env) { e.Vals[2].S.T = api.Type{Var: 5, Name: "x", Kids: []api.Type{{}, {Name: "y"}, {}}} },
		func(e *infer.Env) { e.Vals[2].S.T = api.Type{Var: 5, Name: "x", Kids: []api.Type{{}, {}, {Name: "y"}}} },
		func(e *infer.Env) {
			e.Vals[2].S.T = api.Type{Var: 5, Name: "x", Kids: []api.Type{{Kids: []api.Type{{}, {}}}, {Name: "y"}}}
		},
	} {
		other := infer.Env{Types: slices.Clone(env.Types), Arity: slices.Clone(env.Arity), Cons: slices.Clone(env.Cons), Vals: slices.Clone(env.Vals)}
		change(&other)
		add("another environment", image.World{Env: other, M: x.M})
	}
}

// P11.1: what has no machine is nothing.
func TestNothing(t *testing.T) {
	if p := image.Save(image.World{}); len(p) != 0 {
		t.Errorf("%d bytes of nothing", len(p))
	}
	if p := image.Save(image.World{Env: infer.Base()}); len(p) != 0 {
		t.Errorf("%d bytes of no machine", len(p))
	}
}

// isError: Load must return an error, and nothing else.
func isError(t *testing.T, what string, p []byte, want api.Errno) {
	t.Helper()
	if x, e := image.Load(p); e != want || !reflect.DeepEqual(x, image.World{}) {
		t.Errorf("%s: %d, not %d", what, e, want)
	}
}

// P11.1: bytes whose checksum is wrong, or that end too early, or too late.
func TestLoadErrors(t *testing.T) {
	isError(t, "nothing", nil, api.ErrForm)
	isError(t, "three bytes", []byte{0, 0, 0}, api.ErrForm)
	isError(t, "no sum", []byte{0, 0, 0, 1}, api.ErrSum)
	isError(t, "a sum alone", octet.Seal(nil), api.ErrForm)
	p := image.Save(cells(t, made(t, 300), `let x = ("letters", 2)`, `type 'a t = T of 'a ;; let f = fun x -> T x`))
	inner, _ := octet.Open(p)
	for i := range p {
		q := bytes.Clone(p)
		q[i] ^= 1 << (i % 8)
		isError(t, "a turned bit", q, api.ErrSum)
	}
	for n := range inner {
		isError(t, "fewer bytes", octet.Seal(inner[:n]), api.ErrForm)
	}
	for _, more := range []string{"\x00", "\x01\x01", "anything"} {
		isError(t, "more bytes", octet.Seal(append(bytes.Clone(inner), more...)), api.ErrForm)
		isError(t, "bytes ahead", octet.Seal(append([]byte(more), inner...)), api.ErrForm)
	}
	isError(t, "sealed twice", octet.Seal(p), api.ErrForm)
	loaded(t, p)
}

// P11.1: machines and environments that don't go together, and functions that layer 8 doesn't read.
func TestLoadUnequal(t *testing.T) {
	x := cells(t, made(t, 300), "let x = 1")
	less, more := x.Env, x.Env
	less.Vals = less.Vals[:8]
	more.Vals = append(slices.Clone(more.Vals), infer.Val{Name: "y"})
	isError(t, "a name less", image.Save(image.World{Env: less, M: x.M}), api.ErrForm)
	isError(t, "a name more", image.Save(image.World{Env: more, M: x.M}), api.ErrForm)
	isError(t, "no names", image.Save(image.World{M: x.M}), api.ErrForm)
	text := func(n int) []code.Fun {
		return []code.Fun{{Code: []code.Ins{{Op: code.Fail, S: strings.Repeat("x", n)}}}}
	}
	loaded(t, image.Save(image.World{M: restored(t, text(api.MaxSource), nil)}))
	isError(t, "a great text", image.Save(image.World{M: restored(t, text(api.MaxSource+1), nil)}), api.ErrForm)
	caps := func(n int) []code.Fun { return []code.Fun{{Caps: n, Code: []code.Ins{{Op: code.Fail}}}} }
	loaded(t, image.Save(image.World{M: restored(t, caps(1<<20), nil)}))
	isError(t, "very many captured values", image.Save(image.World{M: restored(t, caps(1<<20+1), nil)}), api.ErrForm)
	val := infer.Env{Vals: []infer.Val{{}}}
	loaded(t, image.Save(image.World{Env: val, M: restored(t, nil, []heap.Word{heap.Num(1 << 61)})}))
	isError(t, "no global", image.Save(image.World{Env: val, M: restored(t, nil, nil)}), api.ErrForm)
	removed := made(t, 100)
	removed.M.Heap().Collect(nil)
	isError(t, "globals that have gone", image.Save(removed), api.ErrForm)
}

// written: the bytes of a world with these parts, as Save lays them.
func written(quota uint64, words []heap.Word, funs []code.Fun, globs []heap.Word) []byte {
	w := &octet.Writer{}
	w.Uint(quota).Uint(uint64(len(words)))
	for _, x := range words {
		w.Uint(uint64(x))
	}
	code.Encode(w, funs)
	w.Uint(uint64(len(globs)))
	for _, x := range globs {
		w.Uint(uint64(x))
	}
	w.Uint(0).Uint(0).Uint(0).Uint(uint64(len(globs)))
	for range globs {
		w.Text("").Int(0).Text("").Int(0).Uint(0)
	}
	return octet.Seal(w.Done())
}

// P11.1: heaps, functions and globals that layers 8 to 10 refuse, or that Save would not leave like that.
func TestLoadParts(t *testing.T) {
	fun := []code.Fun{{Code: []code.Ins{{Op: code.Glob}, {Op: code.Ret}}}}
	pair := []heap.Word{heap.Word(heap.KTuple) + 512, heap.Num(1), heap.Num(2)}
	ref := []heap.Word{heap.Word(heap.KRef) + 256, 0}
	for _, c := range []struct {
		what  string
		p     []byte
		valid bool
	}{
		{"a pair", written(10, pair, fun, []heap.Word{0}), true},
		{"numbers", written(10, nil, nil, []heap.Word{heap.Num(-1), heap.Num(5)}), true},
		{"a ref to itself", written(2, ref, nil, []heap.Word{0, 0}), true},
		{"no room", written(2, pair, fun, []heap.Word{0}), false},
		{"a quota of 0", written(0, nil, nil, nil), false},
		{"a quota of more than MaxWords", written(api.MaxWords+1, nil, nil, nil), false},
		{"a great quota", written(1<<63, nil, nil, nil), false},
		{"no objects", written(10, []heap.Word{7}, nil, nil), false},
		{"an object that ends too early", written(10, pair[:2], nil, []heap.Word{0}), false},
		{"a part that is nowhere", written(10, []heap.Word{heap.Word(heap.KRef) + 256, 8}, nil, []heap.Word{0}), false},
		{"a function of no global", written(10, pair, fun, nil), false},
		{"a function that isn't valid", written(10, pair, []code.Fun{{Code: fun[0].Code[1:]}}, []heap.Word{0}), false},
		{"a global that is nowhere", written(10, pair, nil, []heap.Word{2}), false},
		{"a global behind all", written(10, pair, nil, []heap.Word{6}), false},
		{"what nothing reaches", written(10, pair, nil, []heap.Word{heap.Num(1)}), false},
		{"another order", written(10, append(slices.Clone(ref), pair...), nil, []heap.Word{4, 0}), false},
	} {
		if c.valid {
			if x := loaded(t, c.p); !bytes.Equal(image.Save(x), c.p) {
				t.Errorf("%s: other bytes", c.what)
			}
		} else {
			isError(t, c.what, c.p, api.ErrForm)
		}
	}
}

// P1, P11.1: whatever the bytes are: what is loaded is saved as the same ones.
func TestAnyBytes(t *testing.T) {
	var all [][]byte
	for i := range someCells {
		inner, _ := octet.Open(image.Save(cells(t, made(t, 1000), someCells[:i]...)))
		all = append(all, inner)
	}
	rnd := rand.New(rand.NewSource(1))
	good := 0
	for range 20000 {
		p := bytes.Clone(all[rnd.Intn(len(all))])
		for range 1 + rnd.Intn(2) {
			i, j := rnd.Intn(len(p)), rnd.Intn(len(p))
			switch rnd.Intn(5) {
			case 0:
				p[i] = byte(rnd.Intn(256))
			case 1:
				p[i] += byte(rnd.Intn(3)) - 1
			case 2:
				p[i] = p[j]
			case 3:
				p = slices.Delete(p, min(i, j), min(i, j)+1+rnd.Intn(min(5, len(p)-min(i, j))))
			case 4:
				p = slices.Insert(p, i, p[j])
			}
		}
		p = octet.Seal(p)
		x, e := image.Load(p)
		if e == api.OK && bytes.Equal(image.Save(x), p) {
			good++
		} else if e != api.ErrForm || !reflect.DeepEqual(x, image.World{}) {
			t.Fatalf("%x: %d", p, e)
		}
	}
	if good < 50 {
		t.Errorf("%d are loaded", good)
	}
	for range 20000 {
		p := make([]byte, rnd.Intn(60))
		for i := range p {
			p[i] = byte(rnd.Intn(256)) >> rnd.Intn(8)
		}
		if _, e := image.Load(octet.Seal(p)); e != api.ErrForm {
			t.Errorf("%x: %d", p, e)
		}
	}
}

// P1: types that are within one another more deeply than calls may be, also where they don't end; numbers of items that aren't there.
func TestDeepTypes(t *testing.T) {
	defer debug.SetMaxStack(debug.SetMaxStack(1 << 20))
	const n = 50000
	for at := range 3 {
		deep := api.Type{Var: 1}
		for range n {
			kids := make([]api.Type, 3)
			kids[at] = deep
			deep = api.Type{Name: "t", Kids: kids}
		}
		soon(t, "a deep type", func() {
			env := infer.Env{Cons: []infer.Con{{T: deep}}, Vals: []infer.Val{{S: api.Scheme{T: deep}}}}
			p := image.Save(image.World{Env: env, M: restored(t, nil, []heap.Word{heap.Num(1)})})
			if x := loaded(t, p); !bytes.Equal(image.Save(x), p) {
				t.Error("a deep type: other bytes")
			}
			inner, _ := octet.Open(p)
			isError(t, "a deep type that doesn't end", octet.Seal(inner[:len(inner)-n]), api.ErrForm)
		})
	}
	for _, many := range []uint64{1 << 20, 1 << 40, math.MaxInt64, 1 << 63, math.MaxUint64} {
		w := &octet.Writer{}
		parts := []func(){
			func() { w.Uint(many) }, func() { w.Uint(10).Uint(many) }, func() { w.Uint(10).Uint(0).Uint(many) }, func() { w.Uint(10).Uint(0).Uint(0).Uint(many) },
			func() { w.Uint(10).Uint(0).Uint(0).Uint(0).Uint(many) }, func() { w.Uint(10).Uint(0).Uint(0).Uint(0).Uint(0).Uint(many) },
			func() { w.Uint(10).Uint(0).Uint(0).Uint(0).Uint(0).Uint(0).Uint(many) }, func() { w.Uint(10).Uint(0).Uint(0).Uint(0).Uint(0).Uint(0).Uint(0).Uint(many) },
			func() {
				w.Uint(10).Uint(0).Uint(0).Uint(0).Uint(0).Uint(0).Uint(0).Uint(1).Text("").Int(0).Text("").Int(0).Uint(many)
			},
		}
		for _, part := range parts {
			w = &octet.Writer{}
			part()
			soon(t, "very many", func() { isError(t, "very many", octet.Seal(w.Done()), api.ErrForm) })
		}
	}
}

// The rules on memory: arguments aren't modified, nor kept; results are new.
func TestMemory(t *testing.T) {
	x := cells(t, made(t, 1000), someCells[:6]...)
	p := image.Save(x)
	q := image.Save(x)
	room := append(make([]byte, 0, len(p)+9), p...)
	y, z := loaded(t, room), loaded(t, room)
	if !bytes.Equal(room, p) || !bytes.Equal(room[:len(p)+9][len(p):], make([]byte, 9)) {
		t.Error("the argument is modified")
	}
	for i := range p {
		p[i], room[i] = 0xee, 0xee
	}
	if !bytes.Equal(image.Save(x), q) || !bytes.Equal(image.Save(y), q) {
		t.Error("bytes are kept")
	}
	y.M.Bind(heap.Num(1))
	y.M.Heap().PutText("more", nil)
	y.M.Add(y.M.Funs()[:1])
	y.Env.Types[0], y.Env.Arity[0], y.Env.Vals[0].Name, y.Env.Vals[0].S.T.Kids[0].Name, y.Env.Cons[1].T.Kids[0].Name = "spoilt", 99, "spoilt", "spoilt", "spoilt"
	if !bytes.Equal(image.Save(z), q) || !bytes.Equal(image.Save(x), q) {
		t.Error("worlds share memory")
	}
}
