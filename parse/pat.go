package parse

import (
	"slices"

	"battledore/api"
)

func (p *parser) pattern() api.Pat {
	return nested(p, p.openPattern)
}

func (p *parser) openPattern() api.Pat {
	x := p.simplePattern()
	if !p.take("::") {
		return x
	}
	return api.Pat{Kind: api.PCons, Kids: []api.Pat{x, p.pattern()}}
}

func (p *parser) simplePattern() api.Pat {
	if p.peek().Kind != api.TCon {
		return p.patternAtom()
	}
	x := p.constructorPattern()
	if p.patternAtomFollows() {
		x.Kids = []api.Pat{p.patternAtom()}
	}
	return x
}

func (p *parser) constructorPattern() api.Pat {
	return api.Pat{Kind: api.PCon, Text: p.token(api.TCon).Text}
}

// patternAtomFollows: does the next token begin a pattern atom?
func (p *parser) patternAtomFollows() bool {
	switch p.peek().Kind {
	case api.TNum, api.TText, api.TName, api.TCon:
		return true
	}
	return p.is("-") || p.is("_") || p.is("true") || p.is("false") || p.is("(") || p.is("[")
}

func (p *parser) patternAtom() api.Pat {
	return nested(p, p.openPatternAtom)
}

func (p *parser) openPatternAtom() api.Pat {
	switch p.peek().Kind {
	case api.TNum:
		return api.Pat{Kind: api.PInt, N: p.number()}
	case api.TText:
		return api.Pat{Kind: api.PText, Text: p.token(api.TText).Text}
	case api.TName:
		return api.Pat{Kind: api.PVar, Text: p.name()}
	case api.TCon:
		return p.constructorPattern()
	}
	switch {
	case p.take("-"):
		return api.Pat{Kind: api.PInt, N: -p.number()}
	case p.take("_"):
		return api.Pat{Kind: api.PAny}
	case p.take("true"):
		return api.Pat{Kind: api.PBool, N: 1}
	case p.take("false"):
		return api.Pat{Kind: api.PBool}
	case p.take("("):
		return p.tuplePattern()
	}
	p.want("[")
	return p.listPattern()
}

// tuplePattern: what follows a ( .
func (p *parser) tuplePattern() api.Pat {
	if p.take(")") {
		return api.Pat{Kind: api.PUnit}
	}
	l := separated(p, ",", p.pattern)
	p.want(")")
	if len(l) == 1 {
		return l[0]
	}
	return api.Pat{Kind: api.PTuple, Kids: l}
}

// listPattern: what follows a [ .
func (p *parser) listPattern() api.Pat {
	x := api.Pat{Kind: api.PNil}
	if p.take("]") {
		return x
	}
	l := separated(p, ";", p.pattern)
	p.want("]")
	for _, head := range slices.Backward(l) {
		x = api.Pat{Kind: api.PCons, Kids: []api.Pat{head, x}}
	}
	return x
}
