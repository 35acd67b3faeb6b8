package wal_test

import (
	"math/rand"
	"strings"
	"testing"

	"battledore/api"
	"battledore/wal"
)

// some: a call that is valid in a state.
func some(rnd *rand.Rand, s wal.State) call {
	last := s.Base + uint64(len(s.Log))
	if rnd.Intn(8) == 0 {
		return drop(s.Base+uint64(rnd.Intn(len(s.Log)+1+rnd.Intn(2))), rnd.Intn(3) > 0)
	}
	c := save(uint64(rnd.Intn(400)), rnd.Intn(api.MaxNodes+1)-1, last+1)
	if rnd.Intn(3) == 0 {
		c.from = s.Base + 1 + uint64(rnd.Intn(len(s.Log)+1))
	}
	for range rnd.Intn(4) {
		c.l = append(c.l, entry(uint64(rnd.Intn(300)), strings.Repeat("c", rnd.Intn(6)*rnd.Intn(6))))
	}
	return c
}

// P14.1, P14.2, P14.3, P6, P2: random calls; the power fails at random; the log is opened again then, or used further, or both.
func TestLikeModel(t *testing.T) {
	for seed := range int64(3000) {
		rnd := rand.New(rand.NewSource(seed))
		most := 80 + rnd.Intn(400)
		d := made(t, 2, most)
		w, s := did(t, d)
		var may []string // what interrupted calls may have left, if the log wasn't opened since then
		for range 60 {
			if rnd.Intn(4) == 0 {
				d.Arm(1 + rnd.Intn(3))
			}
			c := some(rnd, s)
			switch e := c.do(w); e {
			case api.OK:
				if cellsOf(c.after(s)) > most {
					t.Fatalf("seed %d, %s: there was room", seed, c.String())
				}
				s, may = c.after(s), nil
			case api.ErrFull:
				if need(c.after(s)) <= most {
					t.Fatalf("seed %d, %s: there was no room", seed, c.String())
				}
			case api.ErrCrash:
				may = append(may, c.torn(s)...)
			default:
				t.Fatalf("seed %d, %s: %d", seed, c.String(), e)
			}
			is(t, c.String(), w, s)
			if !d.On() || rnd.Intn(5) == 0 {
				d.Restart([]int{rnd.Intn(150) - 1, rnd.Intn(150) - 1})
				other := opened(t, d, 0)
				oneOf(t, c.String(), other, append(may, told(s)))
				if rnd.Intn(2) == 0 {
					w, s, may = other, other.State(), nil
				}
			}
		}
	}
}
