package code

import (
	"slices"

	"battledore/api"
)

// exit is a jump out of a pattern, from where the stack was so deep.
type exit struct {
	jump  int
	depth int64
}

// matcher goes through a pattern. What it looks at stays on the stack till the arm's end, so that each part is fetched once.
type matcher struct {
	*frame
	matched Ins     // what leaves the value that is matched
	trail   []int64 // of which part of it the pattern is
	exits   []exit
}

func (f *frame) match(x api.Expr) {
	f.expr(x.Kids[0])
	var ends []int
	for i, p := range x.Pats {
		ends = append(ends, f.arm(p, x.Kids[1+i]))
	}
	f.emit(Ins{Op: Fail, S: "match"})
	f.land(ends...)
}

// arm: an expression's value instead of the top of the stack, if that matches; from there one jumps to the match's end.
func (f *frame) arm(p api.Pat, x api.Expr) int {
	depth, names := f.depth, len(f.own)
	m := &matcher{frame: f, matched: Ins{Op: Local, N: depth - 1}}
	m.pattern(p, m.matched)
	f.expr(x)
	f.own = f.own[:names]
	f.emit(Ins{Op: Slide, N: f.depth - depth})
	end := f.jump(Jump)
	f.leave(m.exits, depth)
	return end
}

// leave: where the jumps out of a pattern lead to. The deeper the stack was, the more is taken from it, till it is so deep.
func (f *frame) leave(l []exit, depth int64) {
	if len(l) > 0 {
		f.depth = l[len(l)-1].depth
	}
	for _, e := range slices.Backward(l) {
		f.pop(e.depth)
		f.land(e.jump)
	}
	f.pop(depth)
}

// pop makes the stack so deep.
func (f *frame) pop(depth int64) {
	for f.depth > depth {
		f.emit(Ins{Op: Pop})
	}
}

// pattern goes on if what an instruction leaves matches, with the pattern's names.
func (m *matcher) pattern(p api.Pat, at Ins) {
	m.nested(func() { m.byKind(p, at) })
}

// byKind: what a pattern asks for, by its kind. (There is one unit alone.)
func (m *matcher) byKind(p api.Pat, at Ins) {
	switch p.Kind {
	case api.PAny, api.PUnit:
	case api.PVar:
		m.own = append(m.own, variable{p.Text, place{first: at}, place{m.matched, m.path()}})
	case api.PInt, api.PBool:
		m.test(at, Ins{Op: IsInt, N: p.N})
	case api.PNil:
		m.test(at, Ins{Op: IsInt})
	case api.PText:
		m.test(at, Ins{Op: IsText, S: p.Text})
	case api.PCons:
		m.test(at, Ins{Op: IsPtr})
		m.kids(p.Kids, at)
	case api.PTuple:
		m.kids(p.Kids, at)
	case api.PCon:
		i := m.con(p.Text)
		if len(p.Kids) == 0 {
			m.test(at, Ins{Op: IsInt, N: int64(i)})
			return
		}
		m.test(at, Ins{Op: IsCon, N: Number(i)})
		m.kids(p.Kids, at)
	default:
		m.lacks = true
	}
}

// test leaves the pattern, if what an instruction asks of a value isn't so.
func (m *matcher) test(at, x Ins) {
	m.emit(at)
	m.emit(x)
	no := m.jump(False)
	m.exits = append(m.exits, exit{no, m.depth})
}

// kids: patterns of the parts of a value.
func (m *matcher) kids(l []api.Pat, at Ins) {
	for i, p := range l {
		if p.Kind == api.PAny || p.Kind == api.PUnit {
			continue
		}
		m.emit(at)
		m.emit(Ins{Op: Field, N: int64(i)})
		m.trail = append(m.trail, int64(i))
		m.pattern(p, Ins{Op: Local, N: m.depth - 1})
		m.trail = m.trail[:len(m.trail)-1]
	}
}

// path: which part of the matched value the pattern is of.
func (m *matcher) path() *part {
	var p *part
	for _, n := range slices.Backward(m.trail) {
		p = &part{n, p}
	}
	return p
}
