package drum_test

import (
	"slices"
	"testing"

	"battledore/api"
)

// spoil changes all that a slice's memory has, its spare capacity too.
func spoil(p []byte) {
	for i := range p[:cap(p)] {
		p[:cap(p)][i] = '!'
	}
}

// The rule about memory: bytes and cuts stay as they are, with what lies behind them.
func TestArgumentsStay(t *testing.T) {
	room := []byte("abcdef")
	d := made(t, 1, 20)
	d.Append(0, room[1:3])
	d.Append(0, room[2:4])
	d.Sync(0)
	d.Write(0, room[:2])
	d.Append(0, []byte("xyz"))
	cuts := []int{4, 7, 8}
	d.Restart(cuts[:2])
	d.Append(0, []byte("pqr"))
	if string(room) != "abcdef" || !slices.Equal(cuts, []int{4, 7, 8}) {
		t.Errorf("the bytes became %q, the cuts %v", room, cuts)
	}
}

// The rule about memory: what was given may be changed afterwards.
func TestNothingIsRetained(t *testing.T) {
	d := made(t, 2, 20)
	give := func(name string, i int, s string) {
		p := append(make([]byte, 0, 30), s...)
		if name == "append" {
			comes(t, name, d.Append(i, p), api.OK)
		} else {
			comes(t, name, d.Write(i, p), api.OK)
		}
		spoil(p)
	}
	give("append", 0, "ab")
	give("write", 1, "xyz")
	give("append", 1, "w")
	d.Sync(1)
	give("append", 0, "cd")
	give("write", 1, "pq")
	holds(t, d, 0, "abcd")
	holds(t, d, 1, "pq")
	d.Restart([]int{3})
	holds(t, d, 0, "abc")
	holds(t, d, 1, "xyzw")
}

// The rule about memory: what is read is new, with its spare capacity, and stays as it was.
func TestReadIsNew(t *testing.T) {
	d := made(t, 1, 100)
	d.Append(0, []byte("abcdefghi"))
	d.Sync(0)
	d.Append(0, []byte("jk"))
	a, _ := d.Read(0)
	b, _ := d.Read(0)
	d.Append(0, []byte("lm"))
	spoil(a)
	if string(b) != "abcdefghijk" {
		t.Errorf("the other one became %q", b)
	}
	holds(t, d, 0, "abcdefghijklm")
	d.Restart([]int{1})
	spoil(b)
	c, _ := d.Read(0)
	holds(t, d, 0, "abcdefghij")
	d.Append(0, []byte("ZZZ"))
	d.Write(0, []byte("..........."))
	if string(c) != "abcdefghij" {
		t.Errorf("what was read became %q", c)
	}
	spoil(c)
	d.Restart(nil)
	holds(t, d, 0, "abcdefghij")
	d.Write(0, nil)
	empty, _ := d.Read(0)
	spoil(empty)
	d.Restart(nil)
	holds(t, d, 0, "abcdefghij")
}

// The rule about memory: two drums, and two tracks that were given the same bytes, share none.
func TestApart(t *testing.T) {
	p := append(make([]byte, 0, 30), "abc"...)
	d, other := made(t, 2, 20), made(t, 1, 20)
	d.Write(0, p)
	d.Write(1, p)
	other.Write(0, p)
	d.Append(0, []byte("0"))
	d.Append(1, []byte("1"))
	other.Append(0, []byte("2"))
	holds(t, d, 0, "abc0")
	holds(t, d, 1, "abc1")
	holds(t, other, 0, "abc2")
	d.Arm(1)
	d.Sync(0)
	stands(t, d, false, 5)
	stands(t, other, true, 2)
}
