package code_test

import (
	"math/rand"
	"slices"
	"strconv"
	"testing"

	"battledore/api"
	"battledore/code"
	"battledore/infer"
	"battledore/print"
	"battledore/types"
)

// named is a name, and its type.
type named struct {
	name string
	t    api.Type
}

// maker makes expressions that have a type.
type maker struct {
	*rand.Rand
	pool  int // how many names there are: the fewer, the more often one hides another
	scope []named
}

func of(name string, kids ...api.Type) api.Type { return api.Type{Name: name, Kids: kids} }

func made(kind byte, text string, kids ...api.Expr) api.Expr {
	return api.Expr{Kind: kind, Text: text, Kids: kids}
}

func number(n int64) api.Expr { return api.Expr{Kind: api.EInt, N: n} }

func called(f string, x api.Expr) api.Expr { return made(api.EApp, "", made(api.EVar, f), x) }

func (m *maker) name() string { return "v" + strconv.Itoa(m.Intn(m.pool)) }

// within: an expression, made where there are some more names.
func (m *maker) within(do func() api.Expr, l ...named) api.Expr {
	n := len(m.scope)
	m.scope = append(m.scope, l...)
	x := do()
	m.scope = m.scope[:n]
	return x
}

// someType: a type of few parts.
func (m *maker) someType(n int) api.Type {
	if n > 0 {
		switch m.Intn(9) {
		case 0:
			return of("list", m.someType(n-1))
		case 1:
			return of("*", m.someType(n-1), m.someType(n-1))
		case 2:
			return of("*", m.someType(n-1), m.someType(n-1), m.someType(n-1))
		case 3:
			return of("->", m.someType(n-1), m.someType(n-1))
		case 4:
			return of("ref", m.someType(n-1))
		}
	}
	return of([]string{"int", "bool", "unit", "string", "u", "int", "string"}[m.Intn(7)])
}

// visible: the names of that type.
func (m *maker) visible(t api.Type) []string {
	seen := map[string]bool{}
	var l []string
	for _, k := range slices.Backward(m.scope) {
		if !seen[k.name] && types.Same(k.t, t) {
			l = append(l, k.name)
		}
		seen[k.name] = true
	}
	return l
}

func (m *maker) someText() string { return []string{"", "a", "bc", "match"}[m.Intn(4)] }

// leaf: a short expression of a type.
func (m *maker) leaf(t api.Type) api.Expr {
	if l := m.visible(t); len(l) > 0 && m.Intn(5) > 0 {
		return made(api.EVar, l[m.Intn(len(l))])
	}
	return m.literal(t, m.leaf)
}

// literal: an expression by a type's own means.
func (m *maker) literal(t api.Type, kid func(api.Type) api.Expr) api.Expr {
	switch t.Name {
	case "int":
		return number(int64(m.Intn(4)))
	case "bool":
		return api.Expr{Kind: api.EBool, N: int64(m.Intn(2))}
	case "unit":
		return made(api.EUnit, "")
	case "string":
		return made(api.EText, m.someText())
	case "list":
		if m.Intn(2) == 0 {
			return made(api.ENil, "")
		}
		return made(api.ECons, "", kid(t.Kids[0]), m.leaf(t))
	case "*":
		x := made(api.ETuple, "")
		for _, k := range t.Kids {
			x.Kids = append(x.Kids, kid(k))
		}
		return x
	case "->":
		s := m.name()
		return m.within(func() api.Expr { return made(api.EFun, s, kid(t.Kids[1])) }, named{s, t.Kids[0]})
	case "ref":
		return called("ref", kid(t.Kids[0]))
	}
	switch m.Intn(4) {
	case 0:
		return made(api.ECon, "A")
	case 1:
		return made(api.ECon, "B", kid(of("int")))
	case 2:
		return made(api.ECon, "C", kid(of("string")))
	}
	return made(api.ECon, "D")
}

// pat: a pattern of a type; its names are appended to l.
func (m *maker) pat(t api.Type, n int, l *[]named) api.Pat {
	kid := func(t api.Type) api.Pat { return m.pat(t, n-1, l) }
	if n <= 0 || m.Intn(4) == 0 {
		s := m.name()
		if m.Intn(3) == 0 || slices.ContainsFunc(*l, func(k named) bool { return k.name == s }) {
			return api.Pat{Kind: api.PAny}
		}
		*l = append(*l, named{s, t})
		return api.Pat{Kind: api.PVar, Text: s}
	}
	switch t.Name {
	case "int":
		return api.Pat{Kind: api.PInt, N: int64(m.Intn(4) - 1)}
	case "bool":
		return api.Pat{Kind: api.PBool, N: int64(m.Intn(2))}
	case "unit":
		return api.Pat{Kind: api.PUnit}
	case "string":
		return api.Pat{Kind: api.PText, Text: m.someText()}
	case "list":
		if m.Intn(3) == 0 {
			return api.Pat{Kind: api.PNil}
		}
		return api.Pat{Kind: api.PCons, Kids: []api.Pat{kid(t.Kids[0]), kid(t)}}
	case "*":
		p := api.Pat{Kind: api.PTuple}
		for _, k := range t.Kids {
			p.Kids = append(p.Kids, kid(k))
		}
		return p
	case "u":
		p := api.Pat{Kind: api.PCon, Text: []string{"A", "B", "C", "D"}[m.Intn(4)]}
		switch p.Text {
		case "B":
			p.Kids = []api.Pat{kid(of("int"))}
		case "C":
			p.Kids = []api.Pat{kid(of("string"))}
		}
		return p
	}
	return api.Pat{Kind: api.PAny}
}

// expr: an expression of a type, about n levels deep.
func (m *maker) expr(t api.Type, n int) api.Expr {
	kid := func(t api.Type) api.Expr { return m.expr(t, n-1) }
	if n <= 0 {
		return m.leaf(t)
	}
	switch m.Intn(14) {
	case 0:
		return made(api.EIf, "", kid(of("bool")), kid(t), kid(t))
	case 1, 2:
		return m.let(t, n)
	case 3, 4:
		return m.match(t, n)
	case 5:
		s := m.name()
		x := kid(t)
		return made(api.ETry, s, x, m.within(func() api.Expr { return kid(t) }, named{s, of("string")}))
	case 6:
		a := m.someType(1)
		return made(api.EApp, "", kid(of("->", a, t)), kid(a))
	case 7:
		return made(api.ESeq, "", kid(of("unit")), kid(t))
	case 8:
		return made(api.EGet, "", kid(of("ref", t)))
	case 9:
		if m.Intn(3) == 0 {
			return called("fail", kid(of("string")))
		}
	}
	if m.Intn(2) == 0 {
		return m.leaf(t)
	}
	if m.Intn(2) == 0 {
		return m.literal(t, kid)
	}
	return m.operated(t, n)
}

func (m *maker) let(t api.Type, n int) api.Expr {
	s, a := m.name(), m.someType(1)
	x := api.Expr{Kind: api.ELet, Text: s, Rec: m.Intn(3) == 0}
	var value api.Expr
	if x.Rec {
		a = of("->", a, m.someType(1))
		p := m.name()
		value = m.within(func() api.Expr { return made(api.EFun, p, m.expr(a.Kids[1], n-1)) }, named{s, a}, named{p, a.Kids[0]})
	} else {
		value = m.expr(a, n-1)
	}
	x.Kids = []api.Expr{value, m.within(func() api.Expr { return m.expr(t, n-1) }, named{s, a})}
	return x
}

func (m *maker) match(t api.Type, n int) api.Expr {
	a := m.someType(2)
	x := made(api.EMatch, "", m.expr(a, n-1))
	for range 1 + m.Intn(3) {
		var l []named
		x.Pats = append(x.Pats, m.pat(a, 3, &l))
		x.Kids = append(x.Kids, m.within(func() api.Expr { return m.expr(t, n-1) }, l...))
	}
	return x
}

// operated: what operators and predefined functions make.
func (m *maker) operated(t api.Type, n int) api.Expr {
	kid := func(name string) api.Expr { return m.expr(of(name), n-1) }
	two := func(of string, signs ...string) api.Expr {
		return made(api.EOp, signs[m.Intn(len(signs))], kid(of), kid(of))
	}
	switch t.Name {
	case "int":
		return []api.Expr{two("int", "+", "-", "*", "/", "mod"), made(api.ENeg, "", kid("int")), called("size", kid("string"))}[m.Intn(3)]
	case "bool":
		a := m.someType(2)
		return []api.Expr{two("int", "<", "<="), two("bool", "&&", "||"), called("not", kid("bool")), made(api.EOp, []string{"=", "<>"}[m.Intn(2)], m.expr(a, n-1), m.expr(a, n-1))}[m.Intn(4)]
	case "unit":
		a := m.someType(1)
		return []api.Expr{called("print", kid("string")), called("move", kid("int")), called("turn", kid("int")), made(api.EOp, ":=", m.expr(of("ref", a), n-1), m.expr(a, n-1))}[m.Intn(4)]
	case "string":
		return []api.Expr{two("string", "^"), called("itoa", kid("int"))}[m.Intn(2)]
	}
	return m.leaf(t)
}

// agrees asks whether an expression comes, compiled, to what it comes to by the language, and makes no more than layer 12 allows.
func agrees(t *testing.T, n code.Names, x api.Expr, fuel int) string {
	t.Helper()
	want, made, most := bothWays(t, n, x, fuel)
	if made > 4*most {
		t.Fatalf("%s: %d words, and %d at most", print.Expr(x), made, 4*most)
	}
	return want
}

// bothWays: what an expression comes to, compiled and by the language; the words that are made; the words of the promise.
func bothWays(t *testing.T, n code.Names, x api.Expr, fuel int) (string, int, int) {
	t.Helper()
	want, most := executed(fuel, func(e *effects) value { return (&model{e, n}).eval(x, nil) })
	got, made := result(t, n, "", x, fuel)
	if got != want {
		t.Fatalf("%s: %s, not %s", print.Expr(x), got, want)
	}
	return want, made.words, most.words
}

// P8.1: expressions of all kinds come to what they come to by the language, step by step.
func TestRandom(t *testing.T) {
	env := known(t, someTypes)
	typed, comes := 0, map[string]int{}
	for seed := range int64(30000) {
		m := &maker{Rand: rand.New(rand.NewSource(seed)), pool: 2 + int(seed%5)}
		x := m.expr(m.someType(2), 1+int(seed%6))
		if _, _, e := infer.Decl(env, api.Decl{Kind: api.DExpr, E: x}); e != api.OK {
			continue
		}
		typed++
		comes[agrees(t, namesOf(env), x, m.Intn(60))[:1]]++
	}
	if typed < 25000 || len(comes) < 9 || comes["r"] < 1000 || comes["s"] < 400 {
		t.Errorf("%d expressions have a type; they come to %v", typed, comes)
	}
}

// nestedType: a type of which many parts are numbers.
func (m *maker) nestedType(n int) api.Type {
	if n == 0 || m.Intn(4) == 0 {
		return of("int")
	}
	t := of("*")
	for range 2 + m.Intn(2) {
		t.Kids = append(t.Kids, m.nestedType(n-1))
	}
	return t
}

// deep: an expression that binds names in n ways, one within another, and uses some of them at last, and on the way.
func (m *maker) deep(n int) api.Expr {
	if n == 0 {
		return m.uses(30)
	}
	s, f := m.name(), "f"+strconv.Itoa(n)
	int1 := named{s, of("int")}
	rest := func() api.Expr { return m.deep(n - 1) }
	switch m.Intn(9) {
	case 0:
		return made(api.ELet, s, m.uses(2), m.within(rest, int1))
	case 1, 2:
		return made(api.EApp, "", made(api.EFun, s, m.within(rest, int1)), m.uses(2))
	case 3, 4:
		a := m.nestedType(3)
		var l []named
		x := api.Expr{Kind: api.EMatch, Kids: []api.Expr{m.literal(a, m.leaf)}, Pats: []api.Pat{m.pat(a, 3, &l), {Kind: api.PAny}}}
		if m.Intn(2) == 0 {
			x.Kids = append(x.Kids, m.within(rest, l...), number(5))
		} else {
			x.Kids = append(x.Kids, number(5), rest())
		}
		return x
	case 5:
		again := called(f, made(api.EOp, "-", made(api.EVar, s), number(1)))
		body := m.within(func() api.Expr {
			return made(api.EIf, "", made(api.EOp, "<=", made(api.EVar, s), number(0)), rest(), again)
		}, named{f, of("->", of("int"), of("int"))}, int1)
		return api.Expr{Kind: api.ELet, Text: f, Rec: true, Kids: []api.Expr{made(api.EFun, s, body), called(f, number(1))}}
	case 6:
		return made(api.ETry, s, called("fail", made(api.EText, "raised")), m.within(rest, named{s, of("string")}))
	case 7:
		x := made(api.EFun, s, m.within(rest, int1))
		return made(api.ELet, f, x, made(api.EOp, "+", m.uses(1), called(f, m.uses(1))))
	}
	return made(api.EOp, []string{"+", "-"}[m.Intn(2)], m.uses(2), rest())
}

// uses: a number made of so many names.
func (m *maker) uses(n int) api.Expr {
	x := number(1)
	for range n {
		y := m.leaf(of("int"))
		if m.Intn(6) == 0 {
			y = called("size", m.leaf(of("string")))
		}
		x = made(api.EOp, "+", made(api.EOp, "*", x, number(3)), y)
	}
	return x
}

// P8.1: names in functions within functions, also where there are very many.
func TestDeepScopes(t *testing.T) {
	env := known(t, someTypes)
	shares, packs := 0, 0
	for seed := range int64(700) {
		m := &maker{Rand: rand.New(rand.NewSource(seed)), pool: []int{20, 90, 1000}[seed%3]}
		x := m.deep(int(seed % 120))
		if seed%50 == 49 {
			if _, _, e := infer.Decl(env, api.Decl{Kind: api.DExpr, E: x}); e != api.OK {
				t.Fatalf("%s: %d", print.Expr(x), e)
			}
		}
		agrees(t, namesOf(env), x, 1000)
		l, _ := code.Compile(namesOf(env), "", x, 0)
		for _, f := range l {
			shares = max(shares, f.Caps)
			packs += len(slices.DeleteFunc(f.Code, func(x code.Ins) bool { return x.Op != code.Tuple || x.N < 50 }))
		}
	}
	if shares < 40 || packs < 50 {
		t.Errorf("functions capture up to %d values; %d times many at once", shares, packs)
	}
}
