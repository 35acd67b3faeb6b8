package parse

import (
	"slices"
	"strconv"

	"battledore/api"
)

// level is the operators of one precedence.
type level struct {
	signs [4]string
	right bool // do they associate to the right?
}

// levels are the operators, from weak to strong.
var levels = [...]level{
	{signs: [4]string{":="}, right: true},
	{signs: [4]string{"||"}},
	{signs: [4]string{"&&"}},
	{signs: [4]string{"=", "<>", "<=", "<"}},
	{signs: [4]string{"::", "^"}, right: true},
	{signs: [4]string{"+", "-"}},
	{signs: [4]string{"*", "/", "mod"}},
}

// binding is a name, and what it is bound to.
type binding struct {
	name string
	rec  bool
	x    api.Expr
}

func (p *parser) binding() binding {
	rec := p.take("rec")
	name := p.name()
	names := p.names()
	p.want("=")
	first := p.peek()
	x := functions(names, p.expr())
	if rec && x.Kind != api.EFun {
		fail(first, api.ErrText)
	}
	return binding{name, rec, x}
}

// functions: x, enclosed in a function for each of names.
func functions(names []string, x api.Expr) api.Expr {
	for _, n := range slices.Backward(names) {
		x = api.Expr{Kind: api.EFun, Text: n, Kids: []api.Expr{x}}
	}
	return x
}

func (p *parser) expr() api.Expr {
	return nested(p, p.sequence)
}

func (p *parser) sequence() api.Expr {
	x := p.term()
	if !p.take(";") {
		return x
	}
	return api.Expr{Kind: api.ESeq, Kids: []api.Expr{x, p.expr()}}
}

func (p *parser) term() api.Expr {
	return nested(p, p.openTerm)
}

func (p *parser) openTerm() api.Expr {
	switch {
	case p.take("let"):
		return p.let()
	case p.take("fun"):
		return p.fun()
	case p.take("if"):
		return p.choice()
	case p.take("match"):
		return p.match()
	case p.take("try"):
		return p.try()
	}
	return p.operands(0)
}

func (p *parser) let() api.Expr {
	b := p.binding()
	p.want("in")
	return api.Expr{Kind: api.ELet, Text: b.name, Rec: b.rec, Kids: []api.Expr{b.x, p.expr()}}
}

func (p *parser) fun() api.Expr {
	first := p.name()
	names := append([]string{first}, p.names()...)
	p.want("->")
	return functions(names, p.expr())
}

func (p *parser) choice() api.Expr {
	asked := p.expr()
	p.want("then")
	yes := p.term()
	p.want("else")
	no := p.term()
	return api.Expr{Kind: api.EIf, Kids: []api.Expr{asked, yes, no}}
}

func (p *parser) match() api.Expr {
	x := api.Expr{Kind: api.EMatch, Kids: []api.Expr{p.expr()}}
	p.want("with")
	p.take("|")
	for {
		first := p.peek()
		pat := p.pattern()
		if hasTwice(Names(pat)) {
			fail(first, api.ErrTwice)
		}
		p.want("->")
		x.Pats = append(x.Pats, pat)
		x.Kids = append(x.Kids, p.expr())
		if !p.take("|") {
			return x
		}
	}
}

func hasTwice(names []string) bool {
	for i, n := range names {
		if slices.Contains(names[:i], n) {
			return true
		}
	}
	return false
}

func (p *parser) try() api.Expr {
	x := p.expr()
	p.want("with")
	name := p.name()
	p.want("->")
	return api.Expr{Kind: api.ETry, Text: name, Kids: []api.Expr{x, p.expr()}}
}

// operands: what the operators of a level, and of those that are stronger, join.
func (p *parser) operands(depth int) api.Expr {
	if depth == len(levels) {
		return p.negation()
	}
	right := depth + 1
	if levels[depth].right {
		right = depth
	}
	x := p.operands(depth + 1)
	for {
		sign := p.operator(depth)
		if sign == "" {
			return x
		}
		y := nested(p, func() api.Expr { return p.operands(right) })
		x = joined(sign, x, y)
	}
}

// operator passes an operator of that level; "" if none follows.
func (p *parser) operator(depth int) string {
	for _, sign := range levels[depth].signs {
		if p.take(sign) {
			return sign
		}
	}
	return ""
}

func joined(sign string, x, y api.Expr) api.Expr {
	if sign == "::" {
		return api.Expr{Kind: api.ECons, Kids: []api.Expr{x, y}}
	}
	return api.Expr{Kind: api.EOp, Text: sign, Kids: []api.Expr{x, y}}
}

func (p *parser) negation() api.Expr {
	if p.take("-") {
		return api.Expr{Kind: api.ENeg, Kids: []api.Expr{nested(p, p.negation)}}
	}
	return p.call()
}

func (p *parser) call() api.Expr {
	if p.peek().Kind == api.TCon {
		x := p.constructor()
		if p.atomFollows() {
			x.Kids = []api.Expr{p.atom()}
		}
		return x
	}
	x := p.atom()
	for p.atomFollows() {
		x = api.Expr{Kind: api.EApp, Kids: []api.Expr{x, p.atom()}}
	}
	return x
}

func (p *parser) constructor() api.Expr {
	return api.Expr{Kind: api.ECon, Text: p.token(api.TCon).Text}
}

// atomFollows: does the next token begin an atom?
func (p *parser) atomFollows() bool {
	switch p.peek().Kind {
	case api.TNum, api.TText, api.TName, api.TCon:
		return true
	}
	return p.is("true") || p.is("false") || p.is("!") || p.is("(") || p.is("[")
}

func (p *parser) atom() api.Expr {
	return nested(p, p.openAtom)
}

func (p *parser) openAtom() api.Expr {
	switch p.peek().Kind {
	case api.TNum:
		return api.Expr{Kind: api.EInt, N: p.number()}
	case api.TText:
		return api.Expr{Kind: api.EText, Text: p.token(api.TText).Text}
	case api.TName:
		return api.Expr{Kind: api.EVar, Text: p.name()}
	case api.TCon:
		return p.constructor()
	}
	switch {
	case p.take("true"):
		return api.Expr{Kind: api.EBool, N: 1}
	case p.take("false"):
		return api.Expr{Kind: api.EBool}
	case p.take("!"):
		return api.Expr{Kind: api.EGet, Kids: []api.Expr{p.atom()}}
	case p.take("("):
		return p.tuple()
	}
	p.want("[")
	return p.list()
}

// number: the lexer has seen to it that it is not too great.
func (p *parser) number() int64 {
	n, _ := strconv.ParseInt(p.token(api.TNum).Text, 10, 64)
	return n
}

// tuple: what follows a ( .
func (p *parser) tuple() api.Expr {
	if p.take(")") {
		return api.Expr{Kind: api.EUnit}
	}
	l := separated(p, ",", p.expr)
	p.want(")")
	if len(l) == 1 {
		return l[0]
	}
	return api.Expr{Kind: api.ETuple, Kids: l}
}

// list: what follows a [ .
func (p *parser) list() api.Expr {
	x := api.Expr{Kind: api.ENil}
	if p.take("]") {
		return x
	}
	l := separated(p, ";", p.term)
	p.want("]")
	for _, head := range slices.Backward(l) {
		x = api.Expr{Kind: api.ECons, Kids: []api.Expr{head, x}}
	}
	return x
}
