package code

import (
	"slices"

	"battledore/api"
)

// few is how many names are in scope at most where a function captures the values of those that it uses, one by one. Where there are more, it captures a tuple of what its outer function has: what is farther out is found in that function's tuple, and what a pattern names in the value that was matched. So no function is made of many words, however many names it uses.
const few = 64

// place is where a value is: what an instruction leaves, or a part of it.
type place struct {
	first Ins
	parts *part
}

// part is a part of a value, the next one a part of that part.
type part struct {
	field int64
	next  *part
}

// variable is a name, and where its value is; root is where that was found of which the value is a part.
type variable struct {
	name string
	at   place
	root place
}

// frame is a function that is being compiled.
type frame struct {
	*compiler
	outer  *frame
	code   []Ins
	depth  int64               // how many values are on the stack
	own    []variable          // what it binds itself, the innermost name being the last one
	above  int                 // how many names are in scope outside
	shares bool                // there are more than few
	caps   []place             // what it captures, as the outer function finds it
	packed bool                // that is one tuple
	caught map[string]variable // the outer names that it uses
}

// local: a name, the value of which an instruction leaves.
func local(name string, x Ins) variable {
	return variable{name, place{first: x}, place{first: x}}
}

// inner: a function that is made here.
func (f *frame) inner() *frame {
	g := &frame{compiler: f.compiler, outer: f, depth: 1, above: f.above + len(f.own), caught: map[string]variable{}}
	if g.above > few {
		g.shares = true
		g.caps = f.roots()
		g.packed = len(g.caps) >= 2 && len(g.caps) <= maxTuple
	}
	return g
}

// find: what a name means here, if it isn't a global.
func (f *frame) find(name string) (variable, bool) {
	for _, v := range slices.Backward(f.own) {
		if v.name == name {
			return v, true
		}
	}
	if f.outer == nil {
		return variable{}, false
	}
	v, ok := f.caught[name]
	if ok {
		return v, true
	}
	v, ok = f.outer.find(name)
	if ok {
		v = f.capture(v)
		f.caught[name] = v
	}
	return v, ok
}

// capture: where a variable of the outer function is here.
func (f *frame) capture(v variable) variable {
	if !f.shares {
		f.caps = append(f.caps, v.at)
		return local(v.name, Ins{Op: Cap, N: int64(len(f.caps) - 1)})
	}
	i := int64(slices.IndexFunc(f.caps, func(p place) bool { return p.first == v.root.first }))
	p := place{Ins{Op: Cap, N: i}, v.root.parts}
	if f.packed {
		p = place{Ins{Op: Cap}, &part{i, v.root.parts}}
	}
	return variable{v.name, p, p}
}

// roots: the places of all values that are in scope, or of those of which they are parts.
func (f *frame) roots() []place {
	var l []place
	for k := range f.captureAll() {
		l = append(l, place{first: Ins{Op: Cap, N: int64(k)}})
	}
	for _, v := range f.own {
		if !slices.ContainsFunc(l, func(p place) bool { return p.first == v.root.first }) {
			l = append(l, place{first: v.root.first})
		}
	}
	return l
}

// captureAll: how many values a function captures; where it does that one by one, all outer names are now among them.
func (f *frame) captureAll() int {
	if f.packed {
		return 1
	}
	if !f.shares {
		for h := f.outer; h != nil; h = h.outer {
			for _, v := range h.own {
				f.find(v.name)
			}
		}
	}
	return len(f.caps)
}

// get: the value at a place.
func (f *frame) get(p place) {
	f.emit(p.first)
	for q := p.parts; q != nil; q = q.next {
		f.emit(Ins{Op: Field, N: q.field})
	}
}

// name: what a name means: of several the innermost one, of globals the last one.
func (f *frame) name(s string) {
	if v, ok := f.find(s); ok {
		f.get(v.at)
		return
	}
	for i, g := range slices.Backward(f.names.Globs) {
		if g == s {
			f.emit(Ins{Op: Glob, N: int64(i)})
			return
		}
	}
	f.lacks = true
}

// named: an expression that can refer to itself by that name, if it is a function, and there is a name.
func (f *frame) named(self string, x api.Expr) {
	if x.Kind == api.EFun && isWhole(x) {
		f.nested(func() { f.fun(self, x) })
	} else {
		f.expr(x)
	}
}

func (f *frame) fun(self string, x api.Expr) {
	g := f.inner()
	if self != "" {
		g.own = append(g.own, local(self, Ins{Op: Self}))
	}
	g.own = append(g.own, local(x.Text, Ins{Op: Local}))
	g.expr(x.Kids[0])
	g.emit(Ins{Op: Ret})
	f.closure(g)
}

// closure makes a function of what it captures.
func (f *frame) closure(g *frame) {
	for _, p := range g.caps {
		f.get(p)
	}
	n := len(g.caps)
	if g.packed {
		f.emit(Ins{Op: Tuple, N: int64(n)})
		n = 1
	}
	f.emit(Ins{Op: Clos, N: f.add(n, g.code), A: n})
}
