package infer

import (
	"slices"

	"battledore/api"
)

func (c *checker) expr(x api.Expr) api.Type {
	return c.nested(func() api.Type { return c.rule(x) })
}

// is infers an expression that must have a type.
func (c *checker) is(x api.Expr, t api.Type) {
	c.same(c.expr(x), t)
}

// body infers an expression in which there are some more names.
func (c *checker) body(x api.Expr, local ...Val) api.Type {
	outer := len(c.local)
	c.local = append(c.local, local...)
	t := c.expr(x)
	c.local = c.local[:outer]
	return t
}

// rule: the type by the rule of its kind.
func (c *checker) rule(x api.Expr) api.Type {
	switch x.Kind {
	case api.EInt:
		return named("int")
	case api.EText:
		return named("string")
	case api.EBool:
		return named("bool")
	case api.EUnit:
		return named("unit")
	case api.EVar:
		return c.name(x.Text)
	case api.ECon:
		return c.con(x.Text, each(x.Kids, c.expr))
	case api.ETuple:
		return named("*", each(x.Kids, c.expr)...)
	case api.ENil:
		return named("list", c.subst.Fresh())
	case api.ECons:
		k := some(x.Kids, 2)
		return c.cons(c.expr(k[0]), c.expr(k[1]))
	case api.EFun:
		a := c.subst.Fresh()
		return arrow(a, c.body(some(x.Kids, 1)[0], single(x.Text, a)))
	case api.EApp:
		k := some(x.Kids, 2)
		return c.app(c.expr(k[0]), c.expr(k[1]))
	case api.ELet:
		return c.let(x)
	case api.EIf:
		return c.choice(some(x.Kids, 3))
	case api.EMatch:
		return c.match(x)
	case api.ETry:
		k := some(x.Kids, 2)
		t := c.expr(k[0])
		c.same(t, c.body(k[1], single(x.Text, named("string"))))
		return t
	case api.ESeq:
		k := some(x.Kids, 2)
		c.is(k[0], named("unit"))
		return c.expr(k[1])
	case api.EOp:
		k := some(x.Kids, 2)
		return c.op(x.Text, c.expr(k[0]), c.expr(k[1]))
	case api.ENeg:
		c.is(some(x.Kids, 1)[0], named("int"))
		return named("int")
	case api.EGet:
		t := c.subst.Fresh()
		c.is(some(x.Kids, 1)[0], named("ref", t))
		return t
	}
	panic(api.ErrType)
}

func (c *checker) name(s string) api.Type {
	for _, l := range [][]Val{c.local, c.env.Vals} {
		for _, v := range slices.Backward(l) {
			if v.Name == s {
				return c.subst.Open(v.S)
			}
		}
	}
	panic(api.ErrType)
}

// con: what a constructor makes, of what has these types: none, or one.
func (c *checker) con(name string, of []api.Type) api.Type {
	i := slices.IndexFunc(c.env.Cons, func(k Con) bool { return k.Name == name })
	if i < 0 {
		panic(api.ErrType)
	}
	k := c.env.Cons[i]
	made := api.Type{Name: k.Type, Kids: variables(k.N)}
	if !k.Has {
		some(of, 0)
		return c.subst.Open(api.Scheme{N: k.N, T: made})
	}
	f := c.subst.Open(api.Scheme{N: k.N, T: arrow(k.T, made)})
	c.same(f.Kids[0], some(of, 1)[0])
	return f.Kids[1]
}

func (c *checker) cons(head, rest api.Type) api.Type {
	l := named("list", head)
	c.same(rest, l)
	return l
}

func (c *checker) app(f, a api.Type) api.Type {
	c.ask(a)
	t := c.subst.Fresh()
	c.same(f, arrow(a, t))
	return t
}

func (c *checker) let(x api.Expr) api.Type {
	k := some(x.Kids, 2)
	from := len(c.left)
	t := c.bound(x.Text, x.Rec, k[0])
	if !isValue(k[0]) {
		return c.body(k[1], single(x.Text, t))
	}
	return c.body(k[1], Val{x.Text, c.general(t, from)})
}

func (c *checker) choice(k []api.Expr) api.Type {
	c.is(k[0], named("bool"))
	t := c.expr(k[1])
	c.is(k[2], t)
	return t
}

func (c *checker) match(x api.Expr) api.Type {
	k := some(x.Kids, 1+len(x.Pats))
	matched := c.expr(k[0])
	c.ask(matched)
	t := c.subst.Fresh()
	for i, p := range x.Pats {
		var local []Val
		c.same(matched, c.pat(p, &local))
		c.same(t, c.body(k[1+i], local...))
	}
	return t
}

func (c *checker) op(sign string, a, b api.Type) api.Type {
	switch sign {
	case "+", "-", "*", "/", "mod":
		return c.both(a, b, "int", "int")
	case "<", "<=":
		return c.both(a, b, "int", "bool")
	case "^":
		return c.both(a, b, "string", "string")
	case "&&", "||":
		return c.both(a, b, "bool", "bool")
	case "=", "<>":
		c.same(a, b)
		return named("bool")
	case ":=":
		c.same(a, named("ref", b))
		return named("unit")
	}
	panic(api.ErrType)
}

// both: what an operator makes of two that have the same type.
func (c *checker) both(a, b api.Type, of, made string) api.Type {
	c.same(a, named(of))
	c.same(b, named(of))
	return named(made)
}

// pat: the type of a pattern; its names are appended to the local ones.
func (c *checker) pat(p api.Pat, local *[]Val) api.Type {
	return c.nested(func() api.Type { return c.patRule(p, local) })
}

func (c *checker) patRule(p api.Pat, local *[]Val) api.Type {
	pat := func(p api.Pat) api.Type { return c.pat(p, local) }
	switch p.Kind {
	case api.PAny:
		return c.subst.Fresh()
	case api.PVar:
		t := c.subst.Fresh()
		*local = append(*local, single(p.Text, t))
		return t
	case api.PInt:
		return named("int")
	case api.PText:
		return named("string")
	case api.PBool:
		return named("bool")
	case api.PUnit:
		return named("unit")
	case api.PTuple:
		return named("*", each(p.Kids, pat)...)
	case api.PNil:
		return named("list", c.subst.Fresh())
	case api.PCons:
		k := some(p.Kids, 2)
		return c.cons(pat(k[0]), pat(k[1]))
	case api.PCon:
		return c.con(p.Text, each(p.Kids, pat))
	}
	panic(api.ErrType)
}
