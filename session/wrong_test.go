package session_test

import (
	"bytes"
	"math"
	"math/rand"
	"testing"

	"battledore/api"
	"battledore/octet"
	"battledore/session"
)

func isNone(t *testing.T, what string, p []byte) {
	t.Helper()
	if x, e := session.Load(p); x != nil || e != api.ErrForm {
		t.Errorf("%s: Load(%x) = %v, %d", what, p, x, e)
	}
}

// P17.2: what Save doesn't make is ErrForm.
func TestLoadErrors(t *testing.T) {
	a, b := call{7, 1, "a"}, call{8, 1, "b"}
	isNone(t, "nothing", nil)
	isNone(t, "no order", laid(b, a))
	isNone(t, "twice", laid(a, a))
	isNone(t, "twice, with another number", laid(a, call{7, 2, "a"}))
	isNone(t, "no order at the end", laid(a, call{9, 1, ""}, b))
	isNone(t, "id 0", laid(call{0, 1, "a"}))
	isNone(t, "number 0", laid(call{7, 0, "a"}))
	isNone(t, "number 0, later", laid(a, call{8, 0, "a"}))
	isNone(t, "sealed", octet.Seal(laid(a, b)))
	whole := laid(a, b)
	for n := range whole {
		isNone(t, "cut", whole[:n])
	}
	isNone(t, "more", append(bytes.Clone(whole), 0))
	isNone(t, "a number in another encoding", []byte("\x02\x00\x01\x01\x07\x01\x01\x01\x01a"))
	isNone(t, "fewer than it says", []byte("\x01\x02\x01\x07\x01\x01\x01\x01a"))
	isNone(t, "more than it says", []byte("\x00\x01\x07\x01\x01\x01\x01a"))
	l := full()
	is(t, "full", loaded(t, laid(l...)), l...)
	isNone(t, "too many", laid(append(l, call{5000, 1, ""})...))
	for _, n := range []uint64{65, 1 << 31, 1 << 62, 1 << 63, math.MaxUint64} {
		w := &octet.Writer{}
		isNone(t, "too many", w.Uint(n).Done())
		isNone(t, "a reply that is too long", append([]byte("\x01\x01\x01\x07\x01\x01"), w.Done()[1:]...))
	}
}

// P17.2: Load takes bytes if, and only if, Save makes them: texts of few letters at random, and some that are nearly right.
func TestLoadTakesWhatSaveMakes(t *testing.T) {
	rnd := rand.New(rand.NewSource(1))
	taken := 0
	for range 200000 {
		var p []byte
		if rnd.Intn(2) == 0 {
			p = make([]byte, rnd.Intn(12))
			for i := range p {
				p[i] = byte(rnd.Intn(3))
			}
		} else {
			p = laid(call{uint64(1 + rnd.Intn(3)), 1, "ab"}, call{uint64(2 + rnd.Intn(3)), 300, "c"})
			p[rnd.Intn(len(p))] ^= byte(rnd.Intn(4))
		}
		x, e := session.Load(p)
		if e == api.OK && bytes.Equal(x.Save(), p) {
			taken++
			continue
		}
		if e != api.ErrForm || x != nil {
			t.Fatalf("Load(%x) = %v, %d", p, x, e)
		}
	}
	if taken < 1000 {
		t.Errorf("taken: %d", taken)
	}
}

// P17.2, P1: a nil table.
func TestNil(t *testing.T) {
	var x *session.Table
	for _, id := range []uint64{0, 1, math.MaxUint64} {
		for _, number := range []uint64{0, 1, math.MaxUint64} {
			asks(t, x, id, number, "", api.ErrState)
			comes(t, "Put", x.Put(id, number, []byte("a")), api.ErrState)
		}
	}
	is(t, "nil", x)
}

// The rule about memory: replies are neither kept nor shared, and Save and Load share nothing with a table.
func TestMemory(t *testing.T) {
	reply := append(make([]byte, 0, 20), "abc"...)
	x := session.New()
	comes(t, "Put", x.Put(7, 1, reply[:2]), api.OK)
	comes(t, "Put", x.Put(8, 1, reply[1:2]), api.OK)
	if string(reply) != "abc" || string(reply[:5]) != "abc\x00\x00" {
		t.Errorf("the argument became %q", reply[:5])
	}
	spoil(reply)
	want := []call{{7, 1, "ab"}, {8, 1, "b"}}
	is(t, "spoilt", x, want...)
	a, _ := x.Ask(7, 1)
	b, _ := x.Ask(7, 1)
	spoil(a)
	if string(b) != "ab" {
		t.Errorf("the other one became %q", b)
	}
	is(t, "spoilt", x, want...)
	p, q := x.Save(), x.Save()
	y := loaded(t, q)
	spoil(p)
	if !bytes.Equal(q, laid(want...)) {
		t.Errorf("the other one became %x", q)
	}
	spoil(q)
	is(t, "spoilt", x, want...)
	is(t, "loaded", y, want...)
	comes(t, "Put", y.Put(7, 2, nil), api.OK)
	is(t, "the other one", x, want...)
}

// spoil changes all of some bytes' memory, the spare capacity too.
func spoil(p []byte) {
	for i := range p[:cap(p)] {
		p[:cap(p)][i] = '!'
	}
}
