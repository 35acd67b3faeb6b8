package octet_test

import (
	"bytes"
	"math"
	"math/rand"
	"strings"
	"testing"

	"battledore/octet"
)

// P1.2: what a writer wrote is read again, and then the reader is at its end.
func TestReaderReadsWhatWasWritten(t *testing.T) {
	ns := []uint64{0, 1, 127, 128, 255, 256, 65535, 65536, 1<<56 - 1, 1 << 56, 1<<63 - 1, 1 << 63, math.MaxUint64}
	rnd := rand.New(rand.NewSource(1))
	for range 1000 {
		ns = append(ns, rnd.Uint64()>>rnd.Intn(64))
	}
	w := &octet.Writer{}
	for _, n := range ns {
		s := strings.Repeat("s", int(n%300))
		w.Uint(n).Int(int64(n)).Int(-int64(n)).Bytes([]byte(s)).Text(s).Uint(n % 100)
	}
	r := octet.NewReader(w.Done())
	for _, n := range ns {
		if r.End() {
			t.Fatal("at the end too early")
		}
		s := strings.Repeat("s", int(n%300))
		if got := r.Uint(); got != n {
			t.Fatalf("Uint = %d, want %d", got, n)
		}
		if got := r.Int(); got != int64(n) {
			t.Fatalf("Int = %d, want %d", got, int64(n))
		}
		if got := r.Int(); got != -int64(n) {
			t.Fatalf("Int = %d, want %d", got, -int64(n))
		}
		if got := r.Bytes(len(s)); string(got) != s {
			t.Fatalf("Bytes = %q, want %q", got, s)
		}
		if got := r.Text(math.MaxInt); got != s {
			t.Fatalf("Text = %q, want %q", got, s)
		}
		if got := r.Upto(99); got != int(n%100) {
			t.Fatalf("Upto = %d, want %d", got, n%100)
		}
	}
	if r.Bad() || !r.End() {
		t.Errorf("Bad = %v, End = %v", r.Bad(), r.End())
	}
}

// P1.2: a number is read if, and only if, a writer encodes it so: asked of all texts of at most two bytes, and of many longer ones.
func TestReaderTakesOneEncodingAlone(t *testing.T) {
	all := [][]byte{nil}
	for a := range 256 {
		all = append(all, []byte{byte(a)})
		for b := range 256 {
			all = append(all, []byte{byte(a), byte(b)})
		}
	}
	rnd := rand.New(rand.NewSource(2))
	for range 20000 {
		p := make([]byte, 1+rnd.Intn(12))
		for i := range p {
			p[i] = byte(rnd.Intn(256))
		}
		p[0] = byte(rnd.Intn(11))
		p[min(1, len(p)-1)] &= byte(rnd.Intn(3))
		all = append(all, p)
	}
	for _, p := range all {
		r := octet.NewReader(p)
		n := r.Uint()
		if r.Bad() {
			if n != 0 {
				t.Fatalf("%x: a fault, and %d", p, n)
			}
			if len(p) > 0 && p[0] == 0 {
				t.Fatalf("%x: a fault at 0", p)
			}
			if len(p) > 1 && p[0] >= 1 && p[0] <= 8 && len(p) > int(p[0]) && p[1] != 0 {
				t.Fatalf("%x: a fault at a number", p)
			}
			continue
		}
		w := &octet.Writer{}
		q := w.Uint(n).Done()
		if !bytes.HasPrefix(p, q) {
			t.Fatalf("%x was read as %d, which is %x", p, n, q)
		}
		if r.End() != (len(p) == len(q)) {
			t.Fatalf("%x: End = %v behind %x", p, r.End(), q)
		}
	}
}

// reads are the calls of a reader, each with what it returned as a text.
func reads(r *octet.Reader) []string {
	var l []string
	if r.Uint() != 0 {
		l = append(l, "Uint")
	}
	if r.Int() != 0 {
		l = append(l, "Int")
	}
	if r.Upto(math.MaxInt) != 0 {
		l = append(l, "Upto")
	}
	if len(r.Bytes(math.MaxInt)) != 0 {
		l = append(l, "Bytes")
	}
	if r.Text(math.MaxInt) != "" {
		l = append(l, "Text")
	}
	return l
}

// faulty asks that a reader has a fault, and reads nothing any more.
func faulty(t *testing.T, what string, r *octet.Reader) {
	t.Helper()
	if !r.Bad() || r.End() {
		t.Errorf("%q: Bad = %v, End = %v", what, r.Bad(), r.End())
	}
	if l := reads(r); len(l) > 0 {
		t.Errorf("%q: after the fault there is something from %v", what, l)
	}
	if !r.Bad() || r.End() {
		t.Errorf("%q, later: Bad = %v, End = %v", what, r.Bad(), r.End())
	}
}

// P1.2: what isn't an encoding is a fault for each of the reads, at it and after it.
func TestReaderFaults(t *testing.T) {
	behind := "\x01\x07\x01\x07\x01\x01a\x01\x01b"
	for _, s := range []string{
		"",
		"\x01",
		"\x02\x01",
		"\x08\x01\x02\x03\x04\x05\x06\x07",
		"\x01\x00" + behind,
		"\x02\x00\x01" + behind,
		"\x08\x00\xff\xff\xff\xff\xff\xff\xff" + behind,
		"\x09\x01\x02\x03\x04\x05\x06\x07\x08\x09" + behind,
		"\xff" + behind,
	} {
		for i, read := range []func(r *octet.Reader) bool{
			func(r *octet.Reader) bool { return r.Uint() == 0 },
			func(r *octet.Reader) bool { return r.Int() == 0 },
			func(r *octet.Reader) bool { return r.Upto(math.MaxInt) == 0 },
			func(r *octet.Reader) bool { return len(r.Bytes(math.MaxInt)) == 0 },
			func(r *octet.Reader) bool { return r.Text(math.MaxInt) == "" },
		} {
			r := octet.NewReader([]byte(s))
			if r.Bad() {
				t.Errorf("%q: a fault before anything is read", s)
			}
			if !read(r) {
				t.Errorf("%q: read %d returns something", s, i)
			}
			faulty(t, s, r)
		}
	}
}

// P1.2: Upto.
func TestReaderUpto(t *testing.T) {
	for _, c := range []struct {
		n    uint64
		most int
		ok   bool
	}{
		{0, 0, true},
		{1, 0, false},
		{7, 7, true},
		{7, 8, true},
		{7, 6, false},
		{0, -1, false},
		{7, -1, false},
		{0, math.MinInt, false},
		{math.MaxInt64, math.MaxInt, true},
		{1 << 63, math.MaxInt, false},
		{math.MaxUint64, math.MaxInt, false},
		{math.MaxUint64, -1, false},
	} {
		w := &octet.Writer{}
		r := octet.NewReader(w.Uint(c.n).Uint(5).Done())
		n := r.Upto(c.most)
		if !c.ok {
			if n != 0 {
				t.Errorf("Upto(%d) of %d = %d", c.most, c.n, n)
			}
			faulty(t, "Upto", r)
			continue
		}
		if uint64(n) != c.n || r.Bad() || r.Uint() != 5 || !r.End() {
			t.Errorf("Upto(%d) of %d = %d, Bad = %v", c.most, c.n, n, r.Bad())
		}
	}
}

// P1.2: Bytes and Text, at their most, and where fewer bytes are left than they say.
func TestReaderBytes(t *testing.T) {
	for _, c := range []struct {
		p    string
		most int
		want string
		ok   bool
	}{
		{"\x00", 0, "", true},
		{"\x00", -1, "", false},
		{"\x01\x02ab", 2, "ab", true},
		{"\x01\x02ab", 3, "ab", true},
		{"\x01\x02ab", 1, "", false},
		{"\x01\x02ab", 0, "", false},
		{"\x01\x02ab", -1, "", false},
		{"\x01\x02a", 2, "", false},
		{"\x01\x02", 2, "", false},
		{"\x01\x02", math.MaxInt, "", false},
		{"\x08\x7f\xff\xff\xff\xff\xff\xff\xffab", math.MaxInt, "", false},
		{"\x08\x80\x00\x00\x00\x00\x00\x00\x00ab", math.MaxInt, "", false},
		{"\x08\xff\xff\xff\xff\xff\xff\xff\xffab", math.MaxInt, "", false},
		{"\x02\x00\x02ab", 9, "", false},
	} {
		a, b := octet.NewReader([]byte(c.p)), octet.NewReader([]byte(c.p))
		if got := string(a.Bytes(c.most)); got != c.want {
			t.Errorf("Bytes(%d) of %q = %q", c.most, c.p, got)
		}
		if got := b.Text(c.most); got != c.want {
			t.Errorf("Text(%d) of %q = %q", c.most, c.p, got)
		}
		for _, r := range []*octet.Reader{a, b} {
			if r.Bad() == c.ok || r.End() != c.ok {
				t.Errorf("%q, %d: Bad = %v, End = %v", c.p, c.most, r.Bad(), r.End())
			}
		}
		if !c.ok {
			faulty(t, c.p, a)
			faulty(t, c.p, b)
		}
	}
}

// P1.2: Fail, Bad and End.
func TestReaderFail(t *testing.T) {
	r := octet.NewReader([]byte("\x01\x07\x01\x08\x01\x09"))
	if r.Bad() || r.End() {
		t.Errorf("at first: Bad = %v, End = %v", r.Bad(), r.End())
	}
	if n := r.Uint(); n != 7 {
		t.Errorf("Uint = %d", n)
	}
	r.Fail()
	faulty(t, "Fail", r)
	r.Fail()
	faulty(t, "Fail twice", r)
	for _, p := range [][]byte{nil, {}} {
		r := octet.NewReader(p)
		if r.Bad() || !r.End() {
			t.Errorf("of nothing: Bad = %v, End = %v", r.Bad(), r.End())
		}
		r.Fail()
		faulty(t, "Fail at the end", r)
	}
	r = octet.NewReader([]byte("\x01\x07"))
	r.Uint()
	if r.Bad() || !r.End() {
		t.Errorf("at the end: Bad = %v, End = %v", r.Bad(), r.End())
	}
	if n := r.Uint(); n != 0 {
		t.Errorf("behind the end: %d", n)
	}
	faulty(t, "behind the end", r)
}

// P1.2: a nil reader.
func TestReaderNil(t *testing.T) {
	var r *octet.Reader
	faulty(t, "nil", r)
	if r.Upto(-1) != 0 || len(r.Bytes(-1)) != 0 || r.Text(-1) != "" {
		t.Error("a nil reader returns something")
	}
	r.Fail()
	faulty(t, "nil after Fail", r)
}

// The rule about memory: a reader keeps no argument, and hands out nothing that it keeps.
func TestReaderMemory(t *testing.T) {
	p := []byte("\x01\x02ab\x01\x02cd\x01\x02ef")
	r := octet.NewReader(p)
	fill(p)
	a := r.Bytes(2)
	if string(a) != "ab" {
		t.Fatalf("the argument was kept: %q", a)
	}
	fill(a)
	b, c := r.Bytes(2), r.Text(2)
	if string(b) != "cd" || c != "ef" || !r.End() {
		t.Fatalf("a result is the reader's memory: %q, %q", b, c)
	}
	fill(a)
	if string(b) != "cd" {
		t.Errorf("two results share memory: %q", b)
	}
	q := []byte("\x01\x02ab")
	octet.NewReader(q).Bytes(2)
	if string(q) != "\x01\x02ab" {
		t.Errorf("the argument became %q", q)
	}
}

// P1, P2: whatever is read in whatever order, no call panics, and two readers of the same bytes return the same.
func TestReaderAnyCalls(t *testing.T) {
	rnd := rand.New(rand.NewSource(3))
	for range 5000 {
		p := make([]byte, rnd.Intn(30))
		for i := range p {
			p[i] = byte(rnd.Intn(256)) >> rnd.Intn(8)
		}
		a, b := octet.NewReader(p), octet.NewReader(p)
		for range 10 {
			call, most := rnd.Intn(6), rnd.Intn(20)-2
			if x, y := once(a, call, most), once(b, call, most); x != y || a.Bad() != b.Bad() || a.End() != b.End() {
				t.Fatalf("%x: call %d returns %v and %v", p, call, x, y)
			}
		}
	}
}

// result is what any of a reader's calls returns.
type result struct {
	n uint64
	s string
}

func once(r *octet.Reader, call, most int) result {
	switch call {
	case 0:
		return result{n: r.Uint()}
	case 1:
		return result{n: uint64(r.Int())}
	case 2:
		return result{n: uint64(r.Upto(most))}
	case 3:
		return result{s: string(r.Bytes(most))}
	case 4:
		return result{s: r.Text(most)}
	}
	return result{}
}
