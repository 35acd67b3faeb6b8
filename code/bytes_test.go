package code_test

import (
	"bytes"
	"math/rand"
	"slices"
	"testing"

	"battledore/api"
	"battledore/code"
	"battledore/octet"
)

// same: are these the same functions?
func same(a, b []code.Fun) bool {
	return slices.EqualFunc(a, b, func(f, g code.Fun) bool { return f.Caps == g.Caps && slices.Equal(f.Code, g.Code) })
}

func encoded(l []code.Fun) []byte {
	w := &octet.Writer{}
	code.Encode(w, l)
	return w.Done()
}

// P8.3: functions as bytes.
func TestEncode(t *testing.T) {
	for _, c := range []struct {
		l    []code.Fun
		want []byte
	}{
		{nil, []byte{0}},
		{[]code.Fun{}, []byte{0}},
		{[]code.Fun{{}}, []byte{1, 1, 0, 0}},
		{[]code.Fun{{Caps: 3}, {Caps: 256}}, []byte{1, 2, 1, 3, 0, 2, 1, 0, 0}},
		{[]code.Fun{{Caps: 1, Code: []code.Ins{{Op: code.Int, N: -1}, {Op: code.Clos, N: 2, A: 300}, {Op: code.Fail, S: "ab"}, {Op: 255, N: 5, A: 6, S: "c"}}}}, []byte{
			1, 1, 1, 1, 1, 4,
			0, 1, 1, 0, 0,
			1, 6, 1, 4, 2, 1, 44, 0,
			1, 26, 0, 0, 1, 2, 'a', 'b',
			1, 255, 1, 10, 1, 6, 1, 1, 'c',
		}},
	} {
		if got := encoded(c.l); !bytes.Equal(got, c.want) {
			t.Errorf("%v: %v", c.l, got)
		}
		r := octet.NewReader(c.want)
		if got := code.Decode(r); !same(got, c.l) || !r.End() {
			t.Errorf("%v: %v", c.want, got)
		}
	}
}

// P8.3: what was written behind other things is read behind them, and other things behind it.
func TestInARow(t *testing.T) {
	l := []code.Fun{{Caps: 2, Code: []code.Ins{{Op: code.Text, S: "x"}, {Op: code.Ret}}}}
	w := &octet.Writer{}
	w.Uint(7)
	code.Encode(w, l)
	code.Encode(w, nil)
	code.Encode(w, append(l, l...))
	w.Text("end")
	r := octet.NewReader(w.Done())
	if r.Uint() != 7 || !same(code.Decode(r), l) || len(code.Decode(r)) != 0 || r.Bad() || !same(code.Decode(r), append(l, l...)) || r.Text(9) != "end" || !r.End() {
		t.Error("not what was written")
	}
}

// bounded: functions that are at bounds of what is read.
func bounded(funs, caps, instructions, a, text int) []code.Fun {
	l := make([]code.Fun, funs)
	l[0] = code.Fun{Caps: caps, Code: make([]code.Ins, instructions)}
	if instructions > 0 {
		l[0].Code[instructions-1] = code.Ins{A: a, S: string(make([]byte, text))}
	}
	return l
}

// P8.3: what is read at most.
func TestBounds(t *testing.T) {
	const million = 1 << 20
	for _, c := range []struct {
		l  []code.Fun
		ok bool
	}{
		{bounded(api.MaxFuns, 0, 1, 0, 0), true},
		{bounded(api.MaxFuns+1, 0, 1, 0, 0), false},
		{bounded(1, million, 1, 0, 0), true},
		{bounded(1, million+1, 1, 0, 0), false},
		{bounded(2, million, million, 0, 0), true},
		{bounded(2, 0, million+1, 0, 0), false},
		{bounded(3, 0, 2, million, 0), true},
		{bounded(3, 0, 2, million+1, 0), false},
		{bounded(3, 0, 2, 0, api.MaxSource), true},
		{bounded(3, 0, 2, 0, api.MaxSource+1), false},
		{bounded(1, -1, 1, 0, 0), false},
		{bounded(1, 0, 1, -1, 0), false},
	} {
		r := octet.NewReader(encoded(c.l))
		got := code.Decode(r)
		if c.ok != same(got, c.l) || c.ok != r.End() || c.ok == r.Bad() || !c.ok && len(got) != 0 {
			t.Errorf("%d functions, the first one with %d captured values and %d instructions: %d are read", len(c.l), c.l[0].Caps, len(c.l[0].Code), len(got))
		}
	}
	for _, op := range []uint64{0, 26, 27, 255, 256, 1 << 40} {
		w := &octet.Writer{}
		w.Uint(1).Uint(0).Uint(1).Uint(op).Int(0).Uint(0).Text("")
		r := octet.NewReader(w.Done())
		if got := code.Decode(r); (len(got) == 1) != (op < 256) || r.Bad() != (op > 255) {
			t.Errorf("the opcode %d: %v", op, got)
		}
	}
}

// P8.3: none, with a fault, if there are none: what ends too early, and what is no number.
func TestNoFunctions(t *testing.T) {
	whole := encoded([]code.Fun{{Caps: 1, Code: []code.Ins{{Op: code.Int, N: -500}, {Op: code.Fail, A: 3, S: "ab"}}}, {Code: []code.Ins{{Op: code.Ret}}}})
	for n := range whole {
		r := octet.NewReader(whole[:n])
		if got := code.Decode(r); len(got) != 0 || !r.Bad() {
			t.Errorf("%d bytes of %d: %v", n, len(whole), got)
		}
	}
	for _, p := range [][]byte{{9}, {1, 0}, {2, 0, 1}, {1, 1, 9}, {8, 255, 255, 255, 255, 255, 255, 255, 255}, {1, 1, 0, 2, 255, 255}} {
		r := octet.NewReader(p)
		if got := code.Decode(r); len(got) != 0 || !r.Bad() {
			t.Errorf("%v: %v", p, got)
		}
	}
	r := octet.NewReader(whole)
	r.Fail()
	if got := code.Decode(r); len(got) != 0 || !r.Bad() {
		t.Errorf("after a fault: %v", got)
	}
	if got := code.Decode(nil); len(got) != 0 {
		t.Errorf("no reader: %v", got)
	}
	code.Encode(nil, []code.Fun{{Caps: 1, Code: []code.Ins{{}}}})
}

// P1: numbers that promise much are no reason to go on.
func TestPromises(t *testing.T) {
	w := &octet.Writer{}
	w.Uint(api.MaxFuns)
	for range api.MaxFuns {
		w.Uint(0).Uint(1 << 20)
	}
	p := w.Done()
	soon(t, "4000 functions that aren't there", func() {
		for range 1000 {
			r := octet.NewReader(p)
			if got := code.Decode(r); len(got) != 0 || !r.Bad() {
				t.Fatalf("%d functions", len(got))
			}
		}
	})
}

// P1, P8.3: any bytes are functions or a fault; what is read is written again as it was.
func TestAnyBytes(t *testing.T) {
	l := []code.Fun{{Caps: 1, Code: []code.Ins{{Op: code.Int, N: -5}, {Op: code.Fail, A: 3, S: "ab"}, {Op: code.Clos, N: 3, A: 2}}}, {Code: []code.Ins{{Op: code.Ret}}}}
	good := 0
	for seed := range int64(30000) {
		rnd := rand.New(rand.NewSource(seed))
		p := encoded(l)
		for range 1 + rnd.Intn(3) {
			p[rnd.Intn(len(p))] = byte(rnd.Intn(4))
		}
		r := octet.NewReader(p)
		got := code.Decode(r)
		if r.Bad() {
			if len(got) != 0 {
				t.Fatalf("%v: %v beside a fault", p, got)
			}
			continue
		}
		good++
		if q := encoded(got); !bytes.Equal(q, p[:len(q)]) || r.End() != (len(q) == len(p)) {
			t.Fatalf("%v: %v", p, got)
		}
	}
	if good < 1000 {
		t.Errorf("%d are functions", good)
	}
}
