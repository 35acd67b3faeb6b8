package store_test

import (
	"bytes"
	"math"
	"math/rand"
	"testing"

	"battledore/api"
	"battledore/drum"
	"battledore/store"
)

func fails(t *testing.T, what string, d *drum.Drum, a int, want api.Errno) {
	t.Helper()
	if x, e := store.Open(d, a); x != nil || e != want {
		t.Errorf("%s: Open(%d) = %v, %d, want %d", what, a, x, e, want)
	}
}

// P15.1: no drum, no tracks, no power, in this order.
func TestOpenErrors(t *testing.T) {
	for _, a := range []int{0, 1, -1, math.MaxInt, math.MinInt} {
		fails(t, "no drum", nil, a, api.ErrNone)
	}
	for tracks := 1; tracks <= api.MaxTracks; tracks++ {
		d := made(t, tracks, 100)
		for _, on := range []bool{true, false} {
			if !on {
				d.Arm(1)
				d.Sync(0)
			}
			for _, a := range []int{-1, -2, tracks - 1, tracks, tracks + 1, math.MaxInt, math.MaxInt - 1, math.MinInt} {
				fails(t, "no tracks", d, a, api.ErrArg)
			}
			for a := range tracks - 1 {
				if on {
					opened(t, d, a)
				} else {
					fails(t, "no power", d, a, api.ErrCrash)
				}
			}
		}
	}
}

// P15.1: no store.
func TestNoStore(t *testing.T) {
	var x *store.Store
	is(t, "no store", x, store.Snap{})
	for _, s := range []store.Snap{{}, {Index: 1}, {Index: math.MaxUint64, Data: make([]byte, api.MaxTrack+1)}} {
		comes(t, "Save", x.Save(s), api.ErrNone)
	}
}

// P1, P15.1: tracks with bytes that no store has written: whatever they count as, what is saved then is durable.
func TestAnyTracks(t *testing.T) {
	rnd := rand.New(rand.NewSource(1))
	d := made(t, 2, 1000)
	saved(t, d, snap(300, 1, 50), snap(301, 1, 60))
	x, _ := d.Read(0)
	y, _ := d.Read(1)
	for i := range 20000 {
		d := made(t, 2, 1000)
		for k := range 2 {
			p := append(bytes.Clone([][]byte{x, y}[rnd.Intn(2)]), "behind"...)
			switch (i + k) % 4 {
			case 0:
				p = p[:len(p)-6]
				p[rnd.Intn(len(p))] ^= 1 << rnd.Intn(8)
			case 1:
				p = p[:rnd.Intn(len(p)-6)]
			case 2:
				p = append(bytes.Clone(x), y...)
			case 3:
				p = make([]byte, rnd.Intn(40))
				rnd.Read(p)
			}
			d.Append(k, p)
			d.Sync(k)
		}
		s := opened(t, d, 0)
		is(t, "any bytes", s, store.Snap{})
		comes(t, "Save", s.Save(snap(1, 1, 5)), api.OK)
		again(t, "any bytes", d, 0, nil, snap(1, 1, 5))
	}
}

// spoil changes all that a slice's memory has, its spare capacity too.
func spoil(p []byte) {
	for i := range p[:cap(p)] {
		p[:cap(p)][i] = '!'
	}
}

// The rule about memory: what is saved stays as it is, and isn't kept; a snapshot's bytes are new.
func TestMemory(t *testing.T) {
	d := made(t, 2, 2000)
	x := opened(t, d, 0)
	room := append(make([]byte, 0, 900), snap(3, 1, 700).Data...)
	comes(t, "Save", x.Save(store.Snap{Index: 3, Term: 1, Data: room}), api.OK)
	if !bytes.Equal(room, snap(3, 1, 700).Data) || !bytes.Equal(room[700:900], make([]byte, 200)) {
		t.Error("the argument is modified")
	}
	spoil(room)
	is(t, "spoilt", x, snap(3, 1, 700))
	p, q := x.Snap(), x.Snap()
	p.Data = append(p.Data, "more"...)
	spoil(p.Data)
	if !same(q, snap(3, 1, 700)) {
		t.Error("two snapshots share memory")
	}
	spoil(q.Data)
	is(t, "spoilt", x, snap(3, 1, 700))
	y, z := opened(t, d, 0), opened(t, d, 0)
	s := y.Snap()
	spoil(s.Data)
	is(t, "the same one", y, snap(3, 1, 700))
	is(t, "the other one", z, snap(3, 1, 700))
	s = x.Snap()
	comes(t, "Save", x.Save(snap(4, 1, 700)), api.OK)
	comes(t, "Save", x.Save(snap(5, 1, 700)), api.OK)
	if !same(s, snap(3, 1, 700)) {
		t.Error("a snapshot has changed")
	}
}
