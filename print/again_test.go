package print_test

import (
	"math/rand"
	"reflect"
	"strconv"
	"strings"
	"testing"

	"battledore/api"
	"battledore/lex"
	"battledore/parse"
	"battledore/print"
)

// maker makes random things, as parse.Cell returns them.
type maker struct {
	rnd  *rand.Rand
	used int // names that have been used, so that no pattern has one twice
}

func (m *maker) one(l ...string) string { return l[m.rnd.Intn(len(l))] }

func (m *maker) name() string {
	m.used++
	return m.one("x", "let_", "f'", "aB9") + strconv.Itoa(m.used)
}

func (m *maker) text() string {
	return m.one("", "a", "\\", "\"", "\n\t", "(*", "\xff\x00", "'a ;; \\n")
}

// many makes so many things that are not as deep.
func many[T any](n, deep int, one func(deep int) T) []T {
	l := make([]T, n)
	for i := range l {
		l[i] = one(deep - 1)
	}
	return l
}

func (m *maker) pat(deep int) api.Pat {
	kinds := []byte{api.PAny, api.PVar, api.PInt, api.PText, api.PBool, api.PUnit, api.PNil, api.PCon, api.PTuple, api.PCons, api.PCon}
	if deep <= 0 {
		kinds = kinds[:8]
	}
	i := m.rnd.Intn(len(kinds))
	p := api.Pat{Kind: kinds[i]}
	switch {
	case p.Kind == api.PVar:
		p.Text = m.name()
	case p.Kind == api.PInt:
		p.N = m.rnd.Int63n(1<<62-1) >> m.rnd.Intn(62) * (1 - 2*int64(m.rnd.Intn(2)))
	case p.Kind == api.PText:
		p.Text = m.text()
	case p.Kind == api.PBool:
		p.N = int64(m.rnd.Intn(2))
	case p.Kind == api.PTuple:
		p.Kids = many(2+m.rnd.Intn(3), deep, m.pat)
	case p.Kind == api.PCons:
		p.Kids = many(2, deep, m.pat)
	case p.Kind == api.PCon:
		p.Text = m.one("A", "Bc", "D'")
		if i > 7 {
			p.Kids = many(1, deep, m.pat)
		}
	}
	return p
}

func (m *maker) expr(deep int) api.Expr {
	kinds := []byte{api.EInt, api.EText, api.EBool, api.EUnit, api.EVar, api.ECon, api.ENil, api.ECon, api.ETuple, api.ECons, api.EFun, api.EApp, api.ELet, api.EIf, api.EMatch, api.ETry, api.ESeq, api.EOp, api.ENeg, api.EGet, api.EApp}
	if deep <= 0 {
		kinds = kinds[:7]
	}
	i := m.rnd.Intn(len(kinds))
	x := api.Expr{Kind: kinds[i]}
	kids := map[byte]int{api.ECons: 2, api.EFun: 1, api.EApp: 2, api.ELet: 2, api.EIf: 3, api.ETry: 2, api.ESeq: 2, api.EOp: 2, api.ENeg: 1, api.EGet: 1}[x.Kind]
	switch x.Kind {
	case api.EInt:
		x.N = m.rnd.Int63n(1<<62-1) >> m.rnd.Intn(62)
	case api.EText:
		x.Text = m.text()
	case api.EBool:
		x.N = int64(m.rnd.Intn(2))
	case api.EVar, api.EFun, api.ELet, api.ETry:
		x.Text = m.name()
	case api.ECon:
		x.Text = m.one("A", "Bc", "D'")
		kids = i / 7
	case api.ETuple:
		kids = 2 + m.rnd.Intn(3)
	case api.EOp:
		x.Text = m.one(":=", "||", "&&", "=", "<>", "<=", "<", "^", "+", "-", "*", "/", "mod")
	case api.EMatch:
		x.Pats = many(1+m.rnd.Intn(3), deep, m.pat)
		kids = 1 + len(x.Pats)
	}
	if kids > 0 {
		x.Kids = many(kids, deep, m.expr)
	}
	x.Rec = x.Kind == api.ELet && x.Kids[0].Kind == api.EFun && m.rnd.Intn(2) > 0
	return x
}

func (m *maker) typ(deep, vars int) api.Type {
	kid := func(deep int) api.Type { return m.typ(deep, vars) }
	if vars > 0 && m.rnd.Intn(3) == 0 {
		return api.Type{Var: 1 + m.rnd.Intn(vars)}
	}
	if deep <= 0 {
		return api.Type{Name: m.one("int", "t")}
	}
	switch m.rnd.Intn(4) {
	case 0:
		return api.Type{Name: "->", Kids: many(2, deep, kid)}
	case 1:
		return api.Type{Name: "*", Kids: many(2+m.rnd.Intn(2), deep, kid)}
	}
	return api.Type{Name: m.one("list", "t"), Kids: many(1+m.rnd.Intn(3), deep, kid)}
}

func (m *maker) decl(deep int) api.Decl {
	d := api.Decl{Kind: byte(1 + m.rnd.Intn(3))}
	switch d.Kind {
	case api.DExpr:
		d.E = m.expr(deep)
	case api.DLet:
		d.Text, d.E = m.name(), m.expr(deep)
		d.Rec = d.E.Kind == api.EFun && m.rnd.Intn(2) > 0
	case api.DType:
		d.Text = m.name()
		d.N = m.rnd.Intn(4) * m.rnd.Intn(10)
		for i := range 1 + m.rnd.Intn(4) {
			c := api.Ctor{Name: "C" + strconv.Itoa(i), Has: m.rnd.Intn(3) > 0}
			if c.Has {
				c.T = m.typ(deep, d.N)
			}
			d.Ctors = append(d.Ctors, c)
		}
	}
	return d
}

// P5.3: random declarations are parsed to the same as they were, as long as their text is within the limits.
func TestAgain(t *testing.T) {
	m := &maker{rnd: rand.New(rand.NewSource(5))}
	same := 0
	for range 20000 {
		l := many(1+m.rnd.Intn(3), 1+m.rnd.Intn(6), m.decl)
		s := print.Cell(l)
		again, at, e := parse.Cell(s)
		if e == api.ErrLong && len(s) > api.MaxSource || e == api.ErrDeep {
			continue
		}
		if e != api.OK || !reflect.DeepEqual(l, again) {
			t.Fatalf("%s: %d at %d, or parsed to another thing: %v", s, e, at, again)
		}
		if print.Cell(again) != s {
			t.Fatalf("%s is printed as another thing", s)
		}
		same++
	}
	if same < 10000 {
		t.Errorf("only %d of them were within the limits", same)
	}
}

// P5.1: one blank between tokens, except where it says otherwise; the sign of a number is the number's.
func TestBlanks(t *testing.T) {
	m := &maker{rnd: rand.New(rand.NewSource(51))}
	for range 5000 {
		x := m.expr(1 + m.rnd.Intn(5))
		s := print.Expr(x)
		tokens, _, e := lex.Tokens(s)
		if e != api.OK {
			continue
		}
		var b strings.Builder
		for i, k := range tokens[:len(tokens)-1] {
			spelt := strings.TrimRight(s[k.At:tokens[i+1].At], " ")
			if i > 0 && !tight(tokens[i-1], k, s) {
				b.WriteByte(' ')
			}
			b.WriteString(spelt)
		}
		if b.String() != s {
			t.Fatalf("%s should be %s", s, b.String())
		}
	}
}

// tight: is there no blank between two tokens?
func tight(a, b api.Token, s string) bool {
	if a.Kind == api.TSign && strings.Contains("([!", a.Text) || b.Kind == api.TSign && strings.Contains(")],;", b.Text) {
		return true
	}
	return a.Kind == api.TSign && a.Text == "-" && b.Kind == api.TNum && s[a.At+1] != ' '
}
