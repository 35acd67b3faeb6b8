package code_test

import (
	"slices"

	"battledore/api"
	"battledore/code"
)

// bound is a name and what it means, and what was bound before.
type bound struct {
	name string
	v    value
	next *bound
}

// function is an EFun, where names mean what they meant where it occurs.
type function struct {
	name string
	body api.Expr
	in   *bound
}

// model evaluates expressions as layer 12 says, without instructions. Its words are those of layer 12's promise on memory.
type model struct {
	*effects
	names code.Names
}

func (m *model) apply(f, v value) value {
	m.step()
	if p, ok := f.(prim); ok {
		if p == 5 { // ref
			m.words++
		}
		return m.call(p, v)
	}
	g := f.(*function)
	return m.eval(g.body, &bound{g.name, v, g.in})
}

// all: the values of expressions, from left to right.
func (m *model) all(l []api.Expr, in *bound) []value {
	var out []value
	for _, x := range l {
		out = append(out, m.eval(x, in))
	}
	return out
}

// fun: the value of an expression that can refer to itself.
func (m *model) fun(self string, x api.Expr, in *bound) value {
	if x.Kind != api.EFun {
		return m.eval(x, in)
	}
	m.words += 40
	f := &function{x.Text, x.Kids[0], in}
	if self != "" {
		f.in = &bound{self, f, in}
	}
	return f
}

func (m *model) made(v value, words int) value {
	m.words += words
	return v
}

func (m *model) eval(x api.Expr, in *bound) value {
	k := x.Kids
	switch x.Kind {
	case api.EInt, api.EBool:
		return x.N
	case api.EUnit, api.ENil:
		return int64(0)
	case api.EText:
		return m.text(x.Text)
	case api.EVar:
		return m.meant(x.Text, in)
	case api.ECon:
		n := int64(slices.Index(m.names.Cons, x.Text))
		if len(k) == 0 {
			return n
		}
		return m.made(&con{n, m.eval(k[0], in)}, 4)
	case api.ETuple, api.ECons:
		return m.made(&tuple{m.all(k, in)}, 2+len(k))
	case api.EFun:
		return m.fun("", x, in)
	case api.EApp:
		l := m.all(k, in)
		return m.apply(l[0], l[1])
	case api.ELet:
		self := ""
		if x.Rec {
			self = x.Text
		}
		return m.eval(k[1], &bound{x.Text, m.fun(self, k[0], in), in})
	case api.EIf:
		if m.eval(k[0], in) == int64(1) {
			return m.eval(k[1], in)
		}
		return m.eval(k[2], in)
	case api.EMatch:
		return m.match(x, in)
	case api.ETry:
		return m.try(x, in)
	case api.ESeq:
		return m.all(k, in)[1]
	case api.EOp:
		return m.op(x, in)
	case api.ENeg:
		return short(-m.eval(k[0], in).(int64))
	}
	return m.eval(k[0], in).(*cell).v
}

func (m *model) meant(s string, in *bound) value {
	for ; in != nil; in = in.next {
		if in.name == s {
			return in.v
		}
	}
	return prim(slices.Index(m.names.Globs, s))
}

func (m *model) match(x api.Expr, in *bound) value {
	v := m.eval(x.Kids[0], in)
	for i, p := range x.Pats {
		if with, ok := m.bind(p, v, in); ok {
			return m.eval(x.Kids[1+i], with)
		}
	}
	panic(raised("match"))
}

// bind: with a pattern's names; does it match?
func (m *model) bind(p api.Pat, v value, in *bound) (*bound, bool) {
	switch p.Kind {
	case api.PAny, api.PUnit:
		return in, true
	case api.PVar:
		return &bound{p.Text, v, in}, true
	case api.PInt, api.PBool:
		return in, v == p.N
	case api.PNil:
		return in, v == int64(0)
	case api.PText:
		return in, v == p.Text
	case api.PCons, api.PTuple:
		t, ok := v.(*tuple)
		for i := 0; ok && i < len(p.Kids); i++ {
			in, ok = m.bind(p.Kids[i], t.parts[i], in)
		}
		return in, ok
	}
	n := int64(slices.Index(m.names.Cons, p.Text))
	if len(p.Kids) == 0 {
		return in, v == n
	}
	if k, ok := v.(*con); ok && k.n == n {
		return m.bind(p.Kids[0], k.v, in)
	}
	return in, false
}

func (m *model) try(x api.Expr, in *bound) (v value) {
	defer func() {
		thrown := recover()
		if text, ok := thrown.(raised); ok {
			v = m.eval(x.Kids[1], &bound{x.Text, m.text(string(text)), in})
		} else if thrown != nil {
			panic(thrown)
		}
	}()
	return m.eval(x.Kids[0], in)
}

func (m *model) op(x api.Expr, in *bound) value {
	a := m.eval(x.Kids[0], in)
	switch x.Text {
	case "&&":
		if a == int64(0) {
			return a
		}
		return m.eval(x.Kids[1], in)
	case "||":
		if a == int64(1) {
			return a
		}
		return m.eval(x.Kids[1], in)
	}
	b := m.eval(x.Kids[1], in)
	for i, s := range []string{"+", "-", "*", "/", "mod", "=", "<>", "<", "<=", "^", ":="} {
		if s == x.Text {
			return m.operator(int64(i), a, b)
		}
	}
	panic("no operator")
}
