package heap_test

import (
	"fmt"
	"math/rand"
	"slices"
	"strings"
	"testing"

	"battledore/api"
	"battledore/heap"
)

// thing is an object of the model.
type thing struct {
	kind  byte
	parts []value
	text  string
}

// value is an object, or a number.
type value struct {
	of *thing
	n  int64
}

// model is a heap whose objects are found by their pointers.
type model struct {
	quota, collections int
	all                []*thing
}

func (x *thing) need() int {
	if x.kind == heap.KText {
		return 1 + (len(x.text)+7)/8
	}
	return 1 + len(x.parts)
}

func (m *model) used() int {
	n := 0
	for _, x := range m.all {
		n += x.need()
	}
	return n
}

func (m *model) collect(roots []value) {
	m.all, m.collections = nil, m.collections+1
	seen := map[*thing]bool{}
	place := func(l []value) {
		for _, v := range l {
			if v.of != nil && !seen[v.of] {
				seen[v.of] = true
				m.all = append(m.all, v.of)
			}
		}
	}
	place(roots)
	for i := 0; i < len(m.all); i++ {
		place(m.all[i].parts)
	}
}

// put: is there room for it?
func (m *model) put(x *thing, roots []value) bool {
	if m.used()+x.need() > m.quota {
		m.collect(append(slices.Clone(roots), x.parts...))
	}
	if m.used()+x.need() > m.quota {
		return false
	}
	m.all = append(m.all, x)
	return true
}

// word: what a value is in the heap.
func (m *model) word(v value) word {
	if v.of == nil {
		return num(v.n)
	}
	i := 0
	for _, x := range m.all {
		if x == v.of {
			return at(i)
		}
		i += x.need()
	}
	return 1 << 63 // what has gone is nowhere
}

func (m *model) words() []word {
	var l []word
	for _, x := range m.all {
		if x.kind != heap.KText {
			l = append(l, first(x.kind, len(x.parts)))
			for _, p := range x.parts {
				l = append(l, m.word(p))
			}
			continue
		}
		l = append(l, first(x.kind, len(x.text)))
		for i := range x.text {
			if i%8 == 0 {
				l = append(l, 0)
			}
			l[len(l)-1] += word(x.text[i]) << (8 * (i % 8))
		}
	}
	return l
}

// pair is a heap and its model, and variables, each with what it is in both.
type pair struct {
	h    *heap.Heap
	m    *model
	vars []word
	vals []value
	rnd  *rand.Rand
}

func (p *pair) mustAgree(t *testing.T, what string) {
	t.Helper()
	if got, want := p.h.Words(), p.m.words(); !slices.Equal(got, want) {
		t.Fatalf("%s: the words are %v, not %v", what, got, want)
	}
	if p.h.Collections() != p.m.collections || p.h.Used() != p.m.used() || p.h.Quota() != p.m.quota {
		t.Fatalf("%s: %d used, %d collections; not %d, %d", what, p.h.Used(), p.h.Collections(), p.m.used(), p.m.collections)
	}
	for i, v := range p.vals {
		if p.vars[i] != p.m.word(v) {
			t.Fatalf("%s: the variable %d is %d, not %d", what, i, p.vars[i], p.m.word(v))
		}
		if x := v.of; x != nil && (p.h.Kind(p.vars[i]) != x.kind || p.h.Text(p.vars[i]) != x.text || p.h.Len(p.vars[i]) != len(x.parts)+len(x.text)) {
			t.Fatalf("%s: the variable %d is of the kind %d, %q", what, i, p.h.Kind(p.vars[i]), p.h.Text(p.vars[i]))
		}
	}
}

// roots: all variables, in some order, some of them twice; with nil among them.
func (p *pair) roots() ([]*word, []value) {
	var ws []*word
	var vs []value
	for _, i := range p.rnd.Perm(len(p.vars)) {
		for range 1 + p.rnd.Intn(4)/3 {
			ws, vs = append(ws, &p.vars[i]), append(vs, p.vals[i])
		}
		if p.rnd.Intn(9) == 0 {
			ws = append(ws, nil)
		}
	}
	return ws, vs
}

// set: a variable is something else from now on.
func (p *pair) set(i int, w word, v value) { p.vars[i], p.vals[i] = w, v }

func (p *pair) someValue() (word, value) {
	if p.rnd.Intn(4) == 0 {
		n := int64(p.rnd.Intn(600)) - 100
		return num(n), value{n: n}
	}
	i := p.rnd.Intn(len(p.vars))
	return p.vars[i], p.vals[i]
}

// put makes an object, whose parts are copies of some variables, or some variables themselves.
func (p *pair) put(t *testing.T) {
	x := &thing{kind: otherKinds[p.rnd.Intn(len(otherKinds))]}
	ws, vs := p.roots()
	from := p.rnd.Intn(len(p.vars))
	to := from + p.rnd.Intn(len(p.vars)-from+1)
	parts := p.vars[from:to]
	x.parts = slices.Clone(p.vals[from:to])
	if p.rnd.Intn(2) == 0 {
		parts, x.parts = nil, nil
		for range p.rnd.Intn(5) {
			w, v := p.someValue()
			parts, x.parts = append(parts, w), append(x.parts, v)
		}
	}
	w, e := p.h.Put(x.kind, parts, ws)
	p.made(t, x, vs, w, e)
	for i, v := range x.parts {
		if parts[i] != p.m.word(v) {
			t.Fatalf("Put: the part %d is %d, not %d", i, parts[i], p.m.word(v))
		}
	}
	p.keep(x, w, e)
}

func (p *pair) putText(t *testing.T) {
	x := &thing{kind: heap.KText, text: strings.Repeat("a\x00\xff%", 9)[p.rnd.Intn(36):]}
	ws, vs := p.roots()
	w, e := p.h.PutText(x.text, ws)
	p.made(t, x, vs, w, e)
	p.keep(x, w, e)
}

// made: the model makes it, too; whether there is room must be the same.
func (p *pair) made(t *testing.T, x *thing, roots []value, w word, e api.Errno) {
	t.Helper()
	want, place := api.OK, word(0)
	if !p.m.put(x, roots) {
		want = api.ErrMem
	} else {
		place = p.m.word(value{of: x})
	}
	if e != want || w != place {
		t.Fatalf("the object is at %d, %d; not at %d, %d", w, e, place, want)
	}
}

// keep: some variable is the new object; if there was no room, all are numbers soon.
func (p *pair) keep(x *thing, w word, e api.Errno) {
	if i := p.rnd.Intn(len(p.vars)); e == api.OK {
		p.set(i, w, value{of: x})
	} else {
		p.set(i, num(3), value{n: 3})
	}
}

func (p *pair) setPart(t *testing.T) {
	i := p.rnd.Intn(len(p.vars))
	w, v := p.someValue()
	x, k := p.vals[i].of, p.rnd.Intn(7)-1
	want := api.OK
	if x == nil || k < 0 || k >= len(x.parts) {
		want = api.ErrArg
	} else {
		x.parts[k] = v
	}
	if e := p.h.SetPart(p.vars[i], k, w); e != want {
		t.Fatalf("SetPart(%d, %d): %d, not %d", p.vars[i], k, e, want)
	}
	got, e := p.h.Part(p.vars[i], k)
	if e != want || want == api.OK && got != w || want != api.OK && got != 0 {
		t.Fatalf("Part(%d, %d) = %d, %d", p.vars[i], k, got, e)
	}
}

func (p *pair) step(t *testing.T) string {
	switch n := p.rnd.Intn(20); {
	case n < 7:
		p.put(t)
		return "Put"
	case n < 10:
		p.putText(t)
		return "PutText"
	case n < 15:
		p.setPart(t)
		return "SetPart"
	case n == 15:
		ws, vs := p.roots()
		p.h.Collect(ws)
		p.m.collect(vs)
		return "Collect"
	case n == 16:
		old := p.h
		p.h = p.h.Copy()
		old.Collect(nil)
		old.PutText("spoilt", nil)
		return "Copy"
	case n == 17:
		g, e := heap.Load(p.m.quota, p.h.Words())
		if e != api.OK {
			t.Fatalf("Load: %d", e)
		}
		p.h, p.m.collections = g, 0
		return "Load"
	}
	w, v := p.someValue()
	p.set(p.rnd.Intn(len(p.vars)), w, v)
	return "a variable"
}

// P9.2 to P9.4, P2: what is done at random has the same effect in the model.
func TestLikeModel(t *testing.T) {
	collections := 0
	for seed := range int64(500) {
		rnd := rand.New(rand.NewSource(seed))
		quota := 1 + rnd.Intn(120)
		p := &pair{h: made(t, quota), m: &model{quota: quota}, rnd: rnd}
		for range 2 + rnd.Intn(8) {
			p.vars, p.vals = append(p.vars, num(0)), append(p.vals, value{})
		}
		for i := range 200 {
			before := p.m.collections
			what := p.step(t)
			p.mustAgree(t, fmt.Sprintf("%d, %d: %s", seed, i, what))
			if p.m.collections > before {
				collections++
			}
		}
	}
	if collections < 10000 {
		t.Errorf("only %d collections", collections)
	}
}
