package octet_test

import (
	"bytes"
	"encoding/hex"
	"math"
	"strings"
	"testing"

	"battledore/octet"
)

// P1.1: Uint.
func TestWriterUint(t *testing.T) {
	for _, c := range []struct {
		n    uint64
		want string
	}{
		{0, "00"},
		{1, "0101"},
		{127, "017f"},
		{128, "0180"},
		{255, "01ff"},
		{256, "020100"},
		{300, "02012c"},
		{65535, "02ffff"},
		{65536, "03010000"},
		{1<<32 - 1, "04ffffffff"},
		{1 << 32, "050100000000"},
		{0x0102030405, "050102030405"},
		{1<<56 - 1, "07ffffffffffffff"},
		{1 << 56, "080100000000000000"},
		{math.MaxUint64, "08ffffffffffffffff"},
	} {
		w := &octet.Writer{}
		if got := hex.EncodeToString(w.Uint(c.n).Done()); got != c.want {
			t.Errorf("Uint(%d) = %s, want %s", c.n, got, c.want)
		}
	}
}

// P1.1: Int.
func TestWriterInt(t *testing.T) {
	for _, c := range []struct {
		n    int64
		want string
	}{
		{0, "00"},
		{-1, "0101"},
		{1, "0102"},
		{-2, "0103"},
		{127, "01fe"},
		{-128, "01ff"},
		{128, "020100"},
		{-129, "020101"},
		{math.MaxInt64, "08fffffffffffffffe"},
		{math.MinInt64, "08ffffffffffffffff"},
	} {
		w := &octet.Writer{}
		if got := hex.EncodeToString(w.Int(c.n).Done()); got != c.want {
			t.Errorf("Int(%d) = %s, want %s", c.n, got, c.want)
		}
	}
}

// P1.1: Bytes and Text.
func TestWriterBytes(t *testing.T) {
	long := strings.Repeat("x", 256)
	for _, c := range []struct{ s, want string }{
		{"", "\x00"},
		{"\x00", "\x01\x01\x00"},
		{"ab", "\x01\x02ab"},
		{"\xff\xfe", "\x01\x02\xff\xfe"},
		{long, "\x02\x01\x00" + long},
	} {
		v, w := &octet.Writer{}, &octet.Writer{}
		if got := string(v.Bytes([]byte(c.s)).Done()); got != c.want {
			t.Errorf("Bytes(%q) = %q, want %q", c.s, got, c.want)
		}
		if got := string(w.Text(c.s).Done()); got != c.want {
			t.Errorf("Text(%q) = %q, want %q", c.s, got, c.want)
		}
	}
	w := &octet.Writer{}
	if got := string(w.Bytes(nil).Done()); got != "\x00" {
		t.Errorf("Bytes(nil) = %q", got)
	}
}

// P1.1: each call returns the writer, and what it writes stands behind what was written.
func TestWriterOrder(t *testing.T) {
	w := &octet.Writer{}
	if p := w.Done(); len(p) != 0 {
		t.Errorf("nothing was written: %x", p)
	}
	for i, v := range []*octet.Writer{w.Uint(1), w.Int(-1), w.Bytes([]byte("a")), w.Text("b")} {
		if v != w {
			t.Errorf("call %d returns another writer", i)
		}
	}
	want := "\x01\x01" + "\x01\x01" + "\x01\x01a" + "\x01\x01b"
	if p := w.Done(); string(p) != want {
		t.Errorf("Done = %x, want %x", p, want)
	}
	if p := w.Done(); string(p) != want {
		t.Errorf("Done once more = %x, want %x", p, want)
	}
	if p := w.Uint(0).Done(); string(p) != want+"\x00" {
		t.Errorf("Done after one more = %x", p)
	}
}

// The rule about memory: a writer keeps no argument, and hands out nothing that it keeps.
func TestWriterMemory(t *testing.T) {
	w := &octet.Writer{}
	room := []byte("abcd")
	b := room[:2]
	w.Bytes(b)
	if string(room) != "abcd" {
		t.Errorf("the argument became %q", room)
	}
	b[0] = 'z'
	p := w.Done()
	if string(p) != "\x01\x02ab" {
		t.Errorf("the argument was kept: %q", p)
	}
	q := w.Done()
	fill(p)
	if string(q) != "\x01\x02ab" {
		t.Errorf("two results share memory: %q", q)
	}
	w.Uint(7)
	fill(q)
	if got := w.Done(); string(got) != "\x01\x02ab\x01\x07" {
		t.Errorf("a result is the writer's memory: %q", got)
	}
}

// The rule about nil objects, and P1.
func TestWriterNil(t *testing.T) {
	var w *octet.Writer
	if w.Uint(1) != nil || w.Int(1) != nil || w.Bytes([]byte("a")) != nil || w.Text("a") != nil {
		t.Error("a nil writer returns one")
	}
	if p := w.Uint(1).Text("a").Done(); len(p) != 0 {
		t.Errorf("a nil writer wrote %x", p)
	}
}

// P2: what a writer returns depends on its own calls alone: two that write by turns write what each would write alone.
func TestWritersApart(t *testing.T) {
	v, w, alone := &octet.Writer{}, &octet.Writer{}, &octet.Writer{}
	for n := range uint64(1000) {
		v.Uint(n).Text("v")
		w.Int(-int64(n)).Text("w")
		v.Int(int64(n))
	}
	for n := range uint64(1000) {
		alone.Uint(n).Text("v").Int(int64(n))
	}
	if !bytes.Equal(v.Done(), alone.Done()) {
		t.Error("two writers have to do with one another")
	}
}

// fill overwrites a slice, and its spare capacity.
func fill(p []byte) {
	p = p[:cap(p)]
	for i := range p {
		p[i] = 0xee
	}
}
