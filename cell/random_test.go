package cell_test

import (
	"bytes"
	"math/rand"
	"reflect"
	"testing"

	"battledore/api"
	"battledore/cell"
	"battledore/image"
)

// sameOutcome: are two outcomes the same? nil and empty lists are.
func sameOutcome(a, b api.Outcome) bool {
	if len(a.Binds) == 0 && len(b.Binds) == 0 {
		a.Binds, b.Binds = nil, nil
	}
	if len(a.Moves) == 0 && len(b.Moves) == 0 {
		a.Moves, b.Moves = nil, nil
	}
	return reflect.DeepEqual(a, b)
}

// theBasics are names of some types from the beginning.
var theBasics = []typed{
	{"print", of("->", tString, tUnit)}, {"not", of("->", tBool, tBool)}, {"itoa", of("->", tInt, tString)}, {"size", of("->", tString, tInt)}, {"move", of("->", tInt, tUnit)}, {"fail", of("->", tString, tInt)}, {"ref", of("->", tInt, of("ref", tInt))},
}

// history is random cells, and what the model says of them: the outcomes, and how many words there have to be.
type history struct {
	cells    []string
	fuel     []int
	outcomes []api.Outcome
	words    int
}

// write: a history of so many cells, in which each cell is run with different fuels too.
func write(t *testing.T, seed int64, cells int) history {
	t.Helper()
	m := &maker{Rand: rand.New(rand.NewSource(seed)), scope: theBasics}
	b := newBook()
	var h history
	note := func(s string, fuel int) (rest int, e api.Errno) {
		before := b.words
		o, rest, words := b.run(s, fuel)
		h.cells, h.fuel, h.outcomes = append(h.cells, s), append(h.fuel, fuel), append(h.outcomes, o)
		h.words = max(h.words, before+words)
		return rest, o.E
	}
	note(theTypes, 0)
	for range cells {
		n := len(m.scope)
		s := m.cell()
		probe := *b
		o, rest, _ := probe.run(s, 3000)
		probe.back()
		if used := 3000 - rest; used > 0 && o.E != api.ErrFuel {
			note(s, used-1)
			note(s, used)
		} else {
			note(s, 3000)
		}
		if o.E != api.OK {
			m.scope = m.scope[:n]
		}
	}
	return h
}

// P3, P12.1, P12.2: random cells come to what the model says, with exactly as many words as the promise asks for; so do they when the world is saved and loaded in between (P11.2).
func TestRandomCells(t *testing.T) {
	seen := map[api.Errno]int{}
	for seed := range int64(400) {
		h := write(t, seed, 12)
		x := made(t, min(max(4*h.words, 16), api.MaxWords))
		y := x
		for i, s := range h.cells {
			before := image.Save(x)
			next, o := cell.Run(x, s, h.fuel[i])
			seen[o.E]++
			if !sameOutcome(o, h.outcomes[i]) {
				t.Fatalf("seed %d, %s, %d steps: %s, not %s", seed, s, h.fuel[i], told(o), told(h.outcomes[i]))
			}
			after := image.Save(next)
			if !bytes.Equal(image.Save(x), before) || o.E != api.OK && !bytes.Equal(before, after) {
				t.Fatalf("seed %d, %s: %s, and another world", seed, s, told(o))
			}
			last, o := cell.Run(y, s, h.fuel[i])
			if !sameOutcome(o, h.outcomes[i]) || !bytes.Equal(image.Save(last), after) {
				t.Fatalf("seed %d, %s, after the world was loaded: %s, not %s", seed, s, told(o), told(h.outcomes[i]))
			}
			var e api.Errno
			if y, e = image.Load(after); e != api.OK {
				t.Fatalf("seed %d, %s: Load: %d", seed, s, e)
			}
			x = next
		}
	}
	for _, e := range []api.Errno{api.OK, api.ErrRaise, api.ErrFuel} {
		if seen[e] < 200 {
			t.Errorf("only %d cells come to %d", seen[e], e)
		}
	}
	if n := seen[api.OK] + seen[api.ErrRaise] + seen[api.ErrFuel]; n < 4*seen[api.ErrType] {
		t.Errorf("too many cells have no type: %v", seen)
	}
	t.Logf("%v", seen)
}
