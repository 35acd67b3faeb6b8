package parse

import (
	"slices"

	"battledore/api"
)

// typeDecl: what follows a type.
func (p *parser) typeDecl() api.Decl {
	p.vars = p.variables()
	d := api.Decl{Kind: api.DType, Text: p.name(), N: len(p.vars)}
	p.want("=")
	p.take("|")
	for {
		d.Ctors = append(d.Ctors, p.ctor(d.Ctors))
		if !p.take("|") {
			return d
		}
	}
}

// variables: the variables of a type declaration, if there are any.
func (p *parser) variables() []string {
	var vars []string
	add := func() {
		t := p.token(api.TVar)
		if slices.Contains(vars, t.Text) {
			fail(t, api.ErrTwice)
		}
		vars = append(vars, t.Text)
	}
	if p.peek().Kind == api.TVar {
		add()
	} else if p.take("(") {
		add()
		for p.take(",") {
			add()
		}
		p.want(")")
	}
	return vars
}

// ctor: a constructor; its declaration has those of before already.
func (p *parser) ctor(before []api.Ctor) api.Ctor {
	t := p.token(api.TCon)
	if slices.ContainsFunc(before, func(c api.Ctor) bool { return c.Name == t.Text }) {
		fail(t, api.ErrTwice)
	}
	if !p.take("of") {
		return api.Ctor{Name: t.Text}
	}
	return api.Ctor{Name: t.Text, Has: true, T: p.wholeType()}
}

func (p *parser) wholeType() api.Type {
	return nested(p, p.openType)
}

func (p *parser) openType() api.Type {
	x := p.product()
	if !p.take("->") {
		return x
	}
	return api.Type{Name: "->", Kids: []api.Type{x, p.wholeType()}}
}

func (p *parser) product() api.Type {
	l := separated(p, "*", p.applied)
	if len(l) == 1 {
		return l[0]
	}
	return api.Type{Name: "*", Kids: l}
}

func (p *parser) applied() api.Type {
	return nested(p, p.openApplied)
}

func (p *parser) openApplied() api.Type {
	x := p.argument()
	for p.peek().Kind == api.TName {
		x = api.Type{Name: p.name(), Kids: []api.Type{x}}
	}
	return x
}

// argument: what the first of the names is applied to; if it is several types, it has that name already.
func (p *parser) argument() api.Type {
	if t := p.peek(); t.Kind == api.TVar {
		return p.variable()
	}
	if !p.take("(") {
		return api.Type{Name: p.name()}
	}
	l := separated(p, ",", p.wholeType)
	p.want(")")
	if len(l) == 1 {
		return l[0]
	}
	return api.Type{Name: p.name(), Kids: l}
}

func (p *parser) variable() api.Type {
	t := p.token(api.TVar)
	i := slices.Index(p.vars, t.Text)
	if i < 0 {
		fail(t, api.ErrNone)
	}
	return api.Type{Var: i + 1}
}
