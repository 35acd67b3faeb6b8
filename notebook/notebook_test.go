package notebook_test

import (
	"bytes"
	"math"
	"math/rand"
	"strconv"
	"strings"
	"testing"

	"battledore/api"
	"battledore/notebook"
	"battledore/session"
)

// P18.1: the example of the chapter, and a world that grows.
func TestApply(t *testing.T) {
	if notebook.Fuel != 2000 || notebook.Quota != 65536 {
		t.Errorf("Fuel = %d, Quota = %d", notebook.Fuel, notebook.Quota)
	}
	b := notebook.New()
	if b.Len() != 0 {
		t.Errorf("Len = %d", b.Len())
	}
	applies(t, b, 1, 1, "1 + 1", "- : int = 2")
	applies(t, b, 1, 1, "1 + 1", "- : int = 2")
	applies(t, b, 1, 1, "2 + 2", "- : int = 2")
	applies(t, b, 1, 2, "let r = ref 5 ;; r := 6", "r : int ref = {5}, - : unit = ()")
	applies(t, b, 2, 1, "r := !r + 1; !r", "- : int = 7")
	applies(t, b, 2, 1, "r := !r + 1; !r", "- : int = 7")
	applies(t, b, 1, 3, "!r", "- : int = 7")
	applies(t, b, 1, 9, `print "ab"; move 3; turn 1; !r`, "- : int = 7; abmm")
	if p, e := b.Ask(2, 1); e != api.OK || shown(read(t, p)) != "- : int = 7" {
		t.Errorf("Ask = %x, %d", p, e)
	}
}

// P18.1, P5: an error of a cell is its outcome; the world is as it was, and the number isn't executed again.
func TestErrorsAreOutcomes(t *testing.T) {
	b := notebook.New()
	applies(t, b, 1, 1, "let r = ref 5", "r : int ref = {5}")
	for i, c := range [][2]string{
		{"r := 6; 1 / 0", "E9 at 0 div"},
		{`r := 6; print "ab"; fail "this"`, "E9 at 0 this; ab"},
		{"1 + true", "E8 at 0"},
		{"1 + ", "E4 at 4"},
		{"1 + \"", "E4 at 5"},
		{"type bool = No", "E7 at 0"},
		{"let rec f n = f (n + 1) ;; r := 6; f 0", "E10 at 0"},
		{strings.Repeat(" ", api.MaxSource) + "1", "E2 at 0"},
		{strings.Repeat("!", 60) + "r", "E5 at 48"},
	} {
		number := uint64(i) + 2
		applies(t, b, 1, number, c[0], c[1])
		applies(t, b, 1, number, "0", c[1])
		applies(t, b, 2, number, "!r", "- : int = 5")
	}
}

// P18.1: a cell has Fuel steps, each a number of its own.
func TestFuel(t *testing.T) {
	b := notebook.New()
	applies(t, b, 1, 1, "let rec f n = if n = 1 then 0 else f (n - 1)", "f : int -> int = <fun>")
	applies(t, b, 1, 2, "f 1000", "- : int = 0") // 1000 calls, and 1000 pairs
	applies(t, b, 1, 3, "f 1000 ;; not true", "E10 at 0")
	applies(t, b, 1, 4, "f 1001", "E10 at 0")
	applies(t, b, 1, 5, "f 999 ;; f 1", "- : int = 0, - : int = 0")
}

// P18.1: what Ask of the sessions doesn't let pass isn't executed, and has its error; it counts nevertheless.
func TestRefused(t *testing.T) {
	b := notebook.New()
	applies(t, b, 7, 5, "let r = ref 0", "r : int ref = {0}")
	const cell = "r := 1"
	refuses(t, b, entry(7, 0, cell), api.ErrArg)
	refuses(t, b, entry(8, 0, cell), api.ErrArg)
	refuses(t, b, entry(7, 4, cell), api.ErrStale)
	refuses(t, b, entry(7, 1, cell), api.ErrStale)
	refuses(t, b, entry(0, 0, cell), api.OK)
	refuses(t, b, entry(0, 9, cell), api.OK)
	refuses(t, b, api.Entry{}, api.OK)
	refuses(t, b, api.Entry{Term: math.MaxUint64, Number: 1, Cell: []byte("(")}, api.OK)
	for i := range uint64(session.Most - 1) {
		applies(t, b, 100+i, 1, "!r", "- : int = 0")
	}
	refuses(t, b, entry(8, 1, cell), api.ErrLong)
	refuses(t, b, entry(8, 0, cell), api.ErrArg)
	applies(t, b, 7, 6, "!r", "- : int = 0")
	refuses(t, b, entry(math.MaxUint64, 1, cell), api.ErrLong)
}

// P18.1: Ask is that of the sessions.
func TestAsk(t *testing.T) {
	b := notebook.New()
	applies(t, b, 7, 5, "3", "- : int = 3")
	want := notebook.Reply(api.Outcome{Binds: []api.Binding{{Name: "-", Type: "int", Value: "3"}}})
	for range 2 {
		for _, c := range []struct {
			id, number uint64
			want       []byte
			e          api.Errno
		}{
			{7, 5, want, api.OK}, {7, 4, nil, api.ErrStale}, {7, 6, nil, api.ErrNone}, {8, 1, nil, api.ErrNone},
			{0, 5, nil, api.ErrArg}, {7, 0, nil, api.ErrArg}, {0, 0, nil, api.ErrArg},
		} {
			if p, e := b.Ask(c.id, c.number); !bytes.Equal(p, c.want) || e != c.e {
				t.Errorf("Ask(%d, %d) = %x, %d", c.id, c.number, p, e)
			}
		}
		if b.Len() != 1 {
			t.Errorf("Len = %d", b.Len())
		}
		b = loaded(t, b.Save())
	}
}

// someCells have a memory, types, errors, and come to other things the next time.
func someCells() []string {
	return []string{
		"let r = ref 0", "r := !r + 1; !r", "let old = !r ;; old", "1 +", "fail (itoa !r)", "let s = itoa !r ^ \"x\" ;; print s",
		"let rec f n = if n = 0 then [] else n :: f (n - 1) ;; f 5", "let l = (f 7, s) ;; l", "move !r; turn 1; move 2",
		"type t = A | B of int", "let x = B (!r) ;; (x, A)", "let g = let k = !r in fun n -> n + k", "g 3", "s ^ s",
		"let rec f n = f n ;; f 1", "let a = ref (f 100) ;; size s", "r := 1 / 0", "(a, l, x)", "let q = ref r ;; !q := 40",
	}
}

// P18.1, P18.2, P3, P5, P2: random entries held against a model; a second book is saved and loaded again and again, and has the same bytes always.
func TestLikeModel(t *testing.T) {
	for seed := range int64(40) {
		rnd := rand.New(rand.NewSource(seed))
		a, b, m := notebook.New(), notebook.New(), newModel(t)
		cells := someCells()
		for range 120 {
			e := entry(uint64(rnd.Intn(5)), uint64(rnd.Intn(25)), cells[rnd.Intn(len(cells))])
			if rnd.Intn(4) > 0 {
				e.Number = m.replies[e.Session].number + 1
			}
			want, err := m.apply(e)
			p, g := a.Apply(e)
			q, h := b.Apply(e)
			if !bytes.Equal(p, want) || g != err || !bytes.Equal(q, want) || h != err {
				t.Fatalf("seed %d, %s: %s, %d, and %s, %d, not %s, %d", seed, told(e), p, g, q, h, want, err)
			}
			id, number := uint64(rnd.Intn(5)), uint64(rnd.Intn(30))
			want, err = m.ask(id, number)
			if p, g := b.Ask(id, number); !bytes.Equal(p, want) || g != err {
				t.Fatalf("seed %d: Ask(%d, %d): %s, %d, not %s, %d", seed, id, number, p, g, want, err)
			}
			if rnd.Intn(5) == 0 {
				b = loaded(t, b.Save())
			}
			if rnd.Intn(10) == 0 && !bytes.Equal(a.Save(), b.Save()) {
				t.Fatalf("seed %d: other bytes", seed)
			}
		}
		if a.Len() != m.n || b.Len() != m.n || !bytes.Equal(a.Save(), b.Save()) {
			t.Fatalf("seed %d: Len = %d, %d, not %d", seed, a.Len(), b.Len(), m.n)
		}
	}
}

// P18.2, P3: a book that was loaded has the same room as the one that was not.
func TestRoomIsTheSame(t *testing.T) {
	a, b := notebook.New(), notebook.New()
	full := 0
	for n := uint64(1); n < 80; n++ {
		s := "let rec l" + strconv.FormatUint(n, 10) + " = fun n -> n ;; let rec f n = if n = 0 then [] else (n, n) :: f (n - 1) ;; let k" + strconv.FormatUint(n, 10) + " = f 900"
		p, _ := a.Apply(entry(1, n, s))
		q, _ := b.Apply(entry(1, n, s))
		if !bytes.Equal(p, q) {
			t.Fatalf("at %d: %s, and %s", n, shown(read(t, p)), shown(read(t, q)))
		}
		if read(t, p).E == api.ErrMem {
			full++
		}
		b = loaded(t, b.Save())
	}
	if full == 0 || !bytes.Equal(a.Save(), b.Save()) {
		t.Errorf("full %d times, or other bytes", full)
	}
}
