package octet_test

import (
	"bytes"
	"hash/crc32"
	"math/rand"
	"strings"
	"testing"

	"battledore/api"
	"battledore/octet"
)

// P1.3: Sum, for texts whose CRC-32C is known.
func TestSumKnown(t *testing.T) {
	up := make([]byte, 32)
	for i := range up {
		up[i] = byte(i)
	}
	for _, c := range []struct {
		p    string
		want uint32
	}{
		{"", 0},
		{"a", 0xc1d04330},
		{"123456789", 0xe3069283},
		{strings.Repeat("\x00", 32), 0x8a9136aa},
		{strings.Repeat("\xff", 32), 0x62a8ab43},
		{string(up), 0x46dd794e},
	} {
		if got := octet.Sum([]byte(c.p)); got != c.want {
			t.Errorf("Sum(%q) = %x, want %x", c.p, got, c.want)
		}
	}
	if got := octet.Sum(nil); got != 0 {
		t.Errorf("Sum(nil) = %x", got)
	}
}

// P1.3: Sum, held against the library's.
func TestSumLikeLibrary(t *testing.T) {
	table := crc32.MakeTable(crc32.Castagnoli)
	rnd := rand.New(rand.NewSource(4))
	for n := range 600 {
		p := make([]byte, n)
		rnd.Read(p)
		if got, want := octet.Sum(p), crc32.Checksum(p, table); got != want {
			t.Fatalf("Sum(%x) = %x, want %x", p, got, want)
		}
	}
}

// P1.3: Seal puts the sum behind the bytes, the lowest byte first.
func TestSeal(t *testing.T) {
	for _, c := range []struct{ p, want string }{
		{"", "\x00\x00\x00\x00"},
		{"123456789", "123456789\x83\x92\x06\xe3"},
		{"a", "a\x30\x43\xd0\xc1"},
	} {
		if got := octet.Seal([]byte(c.p)); string(got) != c.want {
			t.Errorf("Seal(%q) = %q, want %q", c.p, got, c.want)
		}
	}
	if got := octet.Seal(nil); string(got) != "\x00\x00\x00\x00" {
		t.Errorf("Seal(nil) = %q", got)
	}
}

// P1.3: Open returns what was sealed.
func TestOpenSeal(t *testing.T) {
	rnd := rand.New(rand.NewSource(5))
	for n := range 300 {
		p := make([]byte, n)
		rnd.Read(p)
		q, e := octet.Open(octet.Seal(p))
		if e != api.OK || !bytes.Equal(p, q) {
			t.Fatalf("Open(Seal(%x)) = %x, %d", p, q, e)
		}
		again, e := octet.Open(octet.Seal(octet.Seal(p)))
		if e != api.OK || !bytes.Equal(octet.Seal(p), again) {
			t.Fatalf("Open of two seals on %x = %x, %d", p, again, e)
		}
	}
}

// P1.3: the errors of Open.
func TestOpenErrors(t *testing.T) {
	for _, p := range [][]byte{nil, {}, {0}, {0, 0}, {0, 0, 0}, []byte("abc")} {
		if q, e := octet.Open(p); e != api.ErrForm || len(q) != 0 {
			t.Errorf("Open(%x) = %x, %d", p, q, e)
		}
	}
	for _, s := range []string{"\x00\x00\x00\x01", "\x01\x00\x00\x00", "abcd", "123456789\xe3\x06\x92\x83", "a\x00\x00\x00\x00"} {
		if q, e := octet.Open([]byte(s)); e != api.ErrSum || len(q) != 0 {
			t.Errorf("Open(%q) = %x, %d", s, q, e)
		}
	}
	sealed := octet.Seal([]byte("some bytes"))
	for i := range 8 * len(sealed) {
		p := bytes.Clone(sealed)
		p[i/8] ^= 1 << (i % 8)
		if q, e := octet.Open(p); e != api.ErrSum || len(q) != 0 {
			t.Errorf("bit %d turned: %x, %d", i, q, e)
		}
	}
	for n := 4; n < len(sealed); n++ {
		if q, e := octet.Open(sealed[:n]); e != api.ErrSum || len(q) != 0 {
			t.Errorf("%d bytes of it: %x, %d", n, q, e)
		}
	}
}

// The rule about memory: arguments stay as they are, with their spare capacity, and results are new.
func TestSealMemory(t *testing.T) {
	room := []byte("abcdefgh")
	p := room[:2]
	a, b := octet.Seal(p), octet.Seal(p)
	octet.Sum(p)
	if string(room) != "abcdefgh" {
		t.Errorf("the argument became %q", room)
	}
	want := string(b)
	fill(a)
	if string(room) != "abcdefgh" || string(b) != want {
		t.Errorf("a result shares memory: %q, %q", room, b)
	}
	x, _ := octet.Open(b)
	y, _ := octet.Open(b)
	fill(x)
	if string(b) != want || string(y) != "ab" {
		t.Errorf("a result shares memory: %q, %q", b, y)
	}
	fill(b)
	if string(y) != "ab" {
		t.Errorf("the argument was kept: %q", y)
	}
}
