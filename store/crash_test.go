package store_test

import (
	"math/rand"
	"strconv"
	"testing"

	"battledore/api"
	"battledore/drum"
	"battledore/octet"
	"battledore/store"
)

// histories: what was saved ahead of the Save that is interrupted.
var histories = [][]store.Snap{
	nil,
	{snap(3, 1, 12)},
	{snap(3, 1, 1200)},
	{snap(3, 1, 1200), snap(4, 1, 30)},
	{snap(3, 1, 30), snap(4, 1, 1200)},
	{snap(3, 1, 30), snap(4, 1, 0), snap(5, 2, 600)},
	{snap(3, 1, 1200), snap(4, 1, 700), snap(5, 2, 600)},
}

// interrupted: the drum, and its store, when the power fails in the n-th operation of a Save; nil, if it has fewer.
func interrupted(t *testing.T, l []store.Snap, s store.Snap, n int) (*drum.Drum, *store.Store) {
	t.Helper()
	d := made(t, 2, 3000)
	x, old := saved(t, d, l...)
	d.Arm(n)
	e := x.Save(s)
	if e == api.OK {
		return nil, nil
	}
	comes(t, told(s), e, api.ErrCrash)
	is(t, "an interrupted one", x, old)
	comes(t, "off", x.Save(s), api.ErrCrash)
	comes(t, "off, stale", x.Save(old), api.ErrStale)
	comes(t, "off, too long", x.Save(snap(999, 1, 3001)), api.ErrFull)
	is(t, "off", x, old)
	return d, x
}

// cuts: those that matter for so many bytes.
func cuts(n int) []int {
	l := []int{-1, 0, 1, 499, 500, 501, 999, 1000, 1001, 1500, 1 << 30}
	for i := n - 5; i < n+45; i++ {
		l = append(l, i)
	}
	for i := 2; i < 45; i++ {
		l = append(l, i)
	}
	return l
}

// P15.2, P6: a Save, interrupted in each of its operations, with many cuts: the old snapshot, or the new one; what is saved then is durable, in the store that is opened, and also in the one that was interrupted.
func TestInterrupted(t *testing.T) {
	for _, l := range histories {
		_, old := saved(t, made(t, 2, 3000), l...)
		for _, s := range []store.Snap{{Index: 9}, snap(9, 2, 1), snap(9, 2, 14), snap(9, 2, 480), snap(9, 2, 500), snap(9, 2, 1300)} {
			whole := 0
			for n := 1; ; n++ {
				d, _ := interrupted(t, l, s, n)
				if d == nil {
					break
				}
				for i, cut := range cuts(len(s.Data)) {
					what := told(s) + " at " + strconv.Itoa(n) + ", cut " + strconv.Itoa(cut)
					d, x := interrupted(t, l, s, n)
					comes(t, "Restart", d.Restart([]int{cut, cut}), api.OK)
					is(t, what+", not opened", x, old)
					other := opened(t, d, 0)
					want := old
					if same(other.Snap(), s) {
						want = s
						whole++
					}
					is(t, what, other, want)
					other = again(t, what, d, 0, nil, want)
					if i%2 == 0 {
						goesOn(t, d, other, want.Index)
					} else {
						goesOn(t, d, x, old.Index)
					}
				}
			}
			if whole == 0 {
				t.Errorf("%s: never whole", told(s))
			}
		}
	}
}

// goesOn asks that what is saved now is durable.
func goesOn(t *testing.T, d *drum.Drum, x *store.Store, index uint64) {
	t.Helper()
	for i := range 3 {
		s := snap(index+uint64(i)+1, 7, 40+i)
		comes(t, told(s), x.Save(s), api.OK)
		is(t, told(s), x, s)
		again(t, told(s), d, 0, []int{9, 9}, s)
	}
}

// P15.2: what is torn isn't taken for a snapshot, though its own bytes are the sum of those ahead of them.
func TestSumWithin(t *testing.T) {
	d := made(t, 2, 1000)
	p := make([]byte, 60)
	saved(t, d, store.Snap{Index: 9, Term: 2, Data: p})
	whole, _ := d.Read(0)
	if len(whole) == 0 {
		whole, _ = d.Read(1)
	}
	for n := 20; n < 60; n++ {
		sum := octet.Seal(whole[:n])[n:]
		for ahead := range 20 {
			s := store.Snap{Index: 9, Term: 2, Data: append([]byte(nil), p...)}
			copy(s.Data[n-ahead:], sum)
			d := made(t, 2, 1000)
			x, old := saved(t, d, snap(1, 1, 3))
			d.Arm(2)
			comes(t, "Save", x.Save(s), api.ErrCrash)
			d.Restart([]int{n + 4, n + 4})
			again(t, "torn", d, 0, nil, old)
		}
	}
}

// P15.1, P15.2, P6, P2: random snapshots; the power fails at random; the store is opened again then, or used further, or both.
func TestLikeModel(t *testing.T) {
	for seed := range int64(2000) {
		rnd := rand.New(rand.NewSource(seed))
		d := made(t, 2, 1500)
		x, now := saved(t, d)
		var may []store.Snap // what interrupted calls may have left, if the store wasn't opened since then
		for range 40 {
			if rnd.Intn(3) == 0 {
				d.Arm(1 + rnd.Intn(6))
			}
			s := snap(now.Index+uint64(rnd.Intn(4)), uint64(rnd.Intn(5)), rnd.Intn(40)*rnd.Intn(40))
			e := x.Save(s)
			switch {
			case s.Index == now.Index:
				comes(t, told(s), e, api.ErrStale)
			case e == api.ErrFull && len(s.Data) > 1460:
			case e == api.OK && len(s.Data) <= 1500:
				now, may = s, nil
			case e == api.ErrCrash:
				may = append(may, s)
			default:
				t.Fatalf("seed %d, %s: %d", seed, told(s), e)
			}
			is(t, told(s), x, now)
			if !d.On() || rnd.Intn(5) == 0 {
				d.Restart([]int{rnd.Intn(1600) - 1, rnd.Intn(1600) - 1})
				other := opened(t, d, 0)
				got := other.Snap()
				for _, s := range append(may, now) {
					if same(got, s) {
						got = store.Snap{}
						break
					}
				}
				if got.Index != 0 {
					t.Fatalf("seed %d: %s, not %s", seed, told(got), told(now))
				}
				if rnd.Intn(2) == 0 {
					x, now, may = other, other.Snap(), nil
				}
			}
		}
	}
}
