package infer_test

import (
	"math/rand"
	"slices"
	"testing"

	"battledore/api"
	"battledore/infer"
	"battledore/print"
	"battledore/types"
)

// scheme is a type, and which of its variables are its own.
type scheme struct {
	name string
	own  []int
	t    api.Type
}

// model infers types as it is taught: what is local is gone through by a let, type by type, and all types are written out. It panics where there is no type.
type model struct {
	env    infer.Env
	stands map[int]api.Type
	last   int
	asked  []api.Type
	over   func(own, local []int) []int // which variables a value's scheme has as its own
}

// free: those that don't occur in the type of a local name.
func free(own, local []int) []int {
	return slices.DeleteFunc(own, func(v int) bool { return slices.Contains(local, v) })
}

func (m *model) fresh() api.Type {
	m.last++
	return variable(m.last)
}

func (m *model) apply(t api.Type) api.Type {
	if t.Name == "" {
		if x, ok := m.stands[t.Var]; ok {
			return m.apply(x)
		}
		return t
	}
	var kids []api.Type
	for _, k := range t.Kids {
		kids = append(kids, m.apply(k))
	}
	return of(t.Name, kids...)
}

func (m *model) unify(a, b api.Type) {
	a, b = m.apply(a), m.apply(b)
	switch {
	case types.Same(a, b):
	case a.Name != "" && b.Name == "":
		m.unify(b, a)
	case a.Name == "":
		if slices.Contains(types.Vars(b), a.Var) {
			panic("within itself")
		}
		m.stands[a.Var] = b
	case a.Name != b.Name || len(a.Kids) != len(b.Kids):
		panic("two types")
	default:
		for i, k := range a.Kids {
			m.unify(k, b.Kids[i])
		}
	}
}

// renamed: a type with a new variable for each of these.
func (m *model) renamed(own []int, t api.Type) api.Type {
	other := map[int]api.Type{}
	for _, v := range own {
		other[v] = m.fresh()
	}
	return replaced(t, other)
}

func replaced(t api.Type, other map[int]api.Type) api.Type {
	if x, ok := other[t.Var]; ok && t.Name == "" {
		return x
	}
	t.Kids = slices.Clone(t.Kids)
	for i, k := range t.Kids {
		t.Kids[i] = replaced(k, other)
	}
	return t
}

func (m *model) con(name string, kids []api.Type) api.Type {
	for _, c := range m.env.Cons {
		if c.Name != name {
			continue
		}
		made := of(c.Type)
		var own []int
		for i := range c.N {
			own = append(own, i+1)
			made.Kids = append(made.Kids, variable(i+1))
		}
		if c.Has != (len(kids) == 1) {
			panic("an argument")
		}
		if !c.Has {
			return m.renamed(own, made)
		}
		f := m.renamed(own, of("->", c.T, made))
		m.unify(f.Kids[0], kids[0])
		return f.Kids[1]
	}
	panic("no constructor")
}

func (m *model) pat(p api.Pat, local []scheme) (api.Type, []scheme) {
	var kids []api.Type
	for _, k := range p.Kids {
		var t api.Type
		t, local = m.pat(k, local)
		kids = append(kids, t)
	}
	switch p.Kind {
	case api.PAny:
		return m.fresh(), local
	case api.PVar:
		t := m.fresh()
		return t, append(slices.Clone(local), scheme{name: p.Text, t: t})
	case api.PTuple:
		return of("*", kids...), local
	case api.PNil:
		return of("list", m.fresh()), local
	case api.PCons:
		m.unify(kids[1], of("list", kids[0]))
		return kids[1], local
	case api.PCon:
		return m.con(p.Text, kids), local
	}
	return of([...]string{api.PInt: "int", api.PText: "string", api.PBool: "bool", api.PUnit: "unit"}[p.Kind]), local
}

func isOfMany(x api.Expr) bool {
	if slices.Contains([]byte{api.ECon, api.ETuple, api.ECons}, x.Kind) {
		return !slices.ContainsFunc(x.Kids, func(k api.Expr) bool { return !isOfMany(k) })
	}
	return slices.Contains([]byte{api.EInt, api.EText, api.EBool, api.EUnit, api.EVar, api.ENil, api.EFun}, x.Kind)
}

func with(local []scheme, name string, t api.Type) []scheme {
	return append(slices.Clone(local), scheme{name: name, t: t})
}

func (m *model) bound(name string, rec bool, x api.Expr, local []scheme) api.Type {
	within := local
	t := m.fresh()
	if rec {
		within = with(local, name, t)
	}
	m.unify(t, m.expr(x, within))
	m.asked = append(m.asked, t)
	return t
}

func (m *model) let(x api.Expr, local []scheme) api.Type {
	t := m.bound(x.Text, x.Rec, x.Kids[0], local)
	s := scheme{name: x.Text, t: t}
	if isOfMany(x.Kids[0]) {
		var there []int
		for _, l := range local {
			there = append(there, free(types.Vars(m.apply(l.t)), l.own)...)
		}
		s.t = m.apply(t)
		s.own = m.over(types.Vars(s.t), there)
	}
	return m.expr(x.Kids[1], append(slices.Clone(local), s))
}

func (m *model) name(s string, local []scheme) api.Type {
	for _, l := range slices.Backward(local) {
		if l.name == s {
			return m.renamed(l.own, l.t)
		}
	}
	for _, v := range slices.Backward(m.env.Vals) {
		if v.Name == s {
			return m.renamed(types.Vars(v.S.T), v.S.T)
		}
	}
	panic("no name")
}

func (m *model) op(sign string, a, b api.Type) api.Type {
	all := map[string][2]string{"+": {"int", "int"}, "<": {"int", "bool"}, "^": {"string", "string"}, "&&": {"bool", "bool"}}
	switch sign {
	case "=":
		m.unify(a, b)
		return of("bool")
	case ":=":
		m.unify(a, of("ref", b))
		return of("unit")
	}
	m.unify(a, of(all[sign][0]))
	m.unify(b, of(all[sign][0]))
	return of(all[sign][1])
}

func (m *model) expr(x api.Expr, local []scheme) api.Type {
	kid := func(i int) api.Type { return m.expr(x.Kids[i], local) }
	var kids []api.Type
	if slices.Contains([]byte{api.ECon, api.ETuple, api.ECons, api.EApp, api.EIf, api.ESeq, api.EOp, api.ENeg, api.EGet}, x.Kind) {
		for i := range x.Kids {
			kids = append(kids, kid(i))
		}
	}
	switch x.Kind {
	case api.EVar:
		return m.name(x.Text, local)
	case api.ECon:
		return m.con(x.Text, kids)
	case api.ETuple:
		return of("*", kids...)
	case api.ENil:
		return of("list", m.fresh())
	case api.ECons:
		m.unify(of("list", kids[0]), kids[1])
		return kids[1]
	case api.EFun:
		a := m.fresh()
		return of("->", a, m.expr(x.Kids[0], with(local, x.Text, a)))
	case api.EApp:
		t := m.fresh()
		m.asked = append(m.asked, kids[1])
		m.unify(kids[0], of("->", kids[1], t))
		return t
	case api.ELet:
		return m.let(x, local)
	case api.EIf:
		m.unify(kids[0], of("bool"))
		m.unify(kids[1], kids[2])
		return kids[1]
	case api.EMatch:
		matched, t := kid(0), m.fresh()
		m.asked = append(m.asked, matched)
		for i, p := range x.Pats {
			a, within := m.pat(p, local)
			m.unify(matched, a)
			m.unify(t, m.expr(x.Kids[i+1], within))
		}
		return t
	case api.ETry:
		t := kid(0)
		m.unify(t, m.expr(x.Kids[1], with(local, x.Text, of("string"))))
		return t
	case api.ESeq:
		m.unify(kids[0], of("unit"))
		return kids[1]
	case api.EOp:
		return m.op(x.Text, kids[0], kids[1])
	case api.ENeg:
		m.unify(kids[0], of("int"))
		return kids[0]
	case api.EGet:
		t := m.fresh()
		m.unify(kids[0], of("ref", t))
		return t
	}
	return of([...]string{api.EInt: "int", api.EText: "string", api.EBool: "bool", api.EUnit: "unit"}[x.Kind])
}

// modelled: the scheme of a declaration, if it has one.
func modelled(env infer.Env, d api.Decl, most int, over func(own, local []int) []int) (s api.Scheme, ok bool) {
	m := &model{env: env, stands: map[int]api.Type{}, over: over}
	defer func() {
		if recover() != nil {
			s, ok = api.Scheme{}, false
		}
	}()
	t := m.bound(d.Text, d.Rec, d.E, nil)
	for _, a := range m.asked {
		if types.Size(m.apply(a), most+1) > most {
			return api.Scheme{}, false
		}
	}
	s = types.Close(m.apply(t), nil)
	if d.Kind == api.DLet && s.N > 0 && !isOfMany(d.E) {
		return api.Scheme{}, false
	}
	return s, true
}

// maker makes random expressions, most of them with names that are there.
type maker struct {
	rnd   *rand.Rand
	names []string
}

func (k *maker) one(l ...string) string { return l[k.rnd.Intn(len(l))] }

func (k *maker) expr(deep int, local ...string) api.Expr {
	kid := func(more ...string) api.Expr { return k.expr(deep-1, slices.Concat(local, more)...) }
	name := k.one("x", "y", "z", "f", "g")
	n := 8
	if deep > 0 {
		n = 24
	}
	switch k.rnd.Intn(n) {
	case 0:
		return api.Expr{Kind: []byte{api.EInt, api.EText, api.EBool, api.EUnit}[k.rnd.Intn(4)]}
	case 1:
		return api.Expr{Kind: api.ENil}
	case 2:
		return api.Expr{Kind: api.ECon, Text: "A"}
	case 3:
		return api.Expr{Kind: api.EVar, Text: k.one(k.names...)}
	case 4, 5, 6, 7:
		return api.Expr{Kind: api.EVar, Text: k.one(append(local, k.one(k.names...))...)}
	case 8:
		return api.Expr{Kind: api.ECon, Text: k.one("B", "B", "C", "U"), Kids: []api.Expr{kid()}}
	case 9:
		return api.Expr{Kind: api.ETuple, Kids: []api.Expr{kid(), kid()}}
	case 10:
		return api.Expr{Kind: api.ECons, Kids: []api.Expr{kid(), {Kind: api.ENil}}}
	case 11, 12, 13:
		return api.Expr{Kind: api.EFun, Text: name, Kids: []api.Expr{kid(name)}}
	case 14, 15, 16:
		return api.Expr{Kind: api.EApp, Kids: []api.Expr{kid(), kid()}}
	case 17, 18, 19:
		x := api.Expr{Kind: api.ELet, Text: name, Kids: []api.Expr{kid(), kid(name)}}
		if k.rnd.Intn(4) == 0 {
			x.Rec, x.Kids[0] = true, api.Expr{Kind: api.EFun, Text: "y", Kids: []api.Expr{kid(name, "y")}}
		}
		return x
	case 20:
		x := api.Expr{Kind: api.EMatch, Kids: []api.Expr{kid()}}
		for range 1 + k.rnd.Intn(2) {
			p := k.pat(2)
			var names []string
			walk(p, &names)
			x.Pats = append(x.Pats, p)
			x.Kids = append(x.Kids, kid(names...))
		}
		return x
	case 21:
		return api.Expr{Kind: api.EIf, Kids: []api.Expr{kid(), kid(), kid()}}
	case 22:
		return k.rare(kid)
	}
	return api.Expr{Kind: api.EOp, Text: k.one("+", "<", "^", "&&", "=", "=", "=", ":="), Kids: []api.Expr{kid(), kid()}}
}

func (k *maker) rare(kid func(...string) api.Expr) api.Expr {
	switch k.rnd.Intn(4) {
	case 0:
		return api.Expr{Kind: api.ETry, Text: "x", Kids: []api.Expr{kid(), kid("x")}}
	case 1:
		return api.Expr{Kind: api.ESeq, Kids: []api.Expr{kid(), kid()}}
	case 2:
		return api.Expr{Kind: api.ENeg, Kids: []api.Expr{kid()}}
	}
	return api.Expr{Kind: api.EGet, Kids: []api.Expr{kid()}}
}

// framed: a let within functions, the name of which is used twice.
func (k *maker) framed() api.Expr {
	local := []string{"z", "y"}
	bound := k.expr(2+k.rnd.Intn(2), local...)
	if k.rnd.Intn(3) > 0 {
		bound = api.Expr{Kind: api.EFun, Text: "x", Kids: []api.Expr{k.expr(1+k.rnd.Intn(3), "x", "x", "y", "z")}}
	}
	use := func() api.Expr { return k.use(api.Expr{Kind: api.EVar, Text: "f"}) }
	x := api.Expr{Kind: api.ELet, Text: "f", Kids: []api.Expr{bound, {Kind: api.ETuple, Kids: []api.Expr{use(), use()}}}}
	if k.rnd.Intn(2) == 0 { // within another let
		x = api.Expr{Kind: api.ELet, Text: "f", Kids: []api.Expr{{Kind: api.EFun, Text: "x", Kids: []api.Expr{x}}, {Kind: api.ETuple, Kids: []api.Expr{use(), use()}}}}
	}
	if k.rnd.Intn(2) == 0 { // with what connects the local names
		same := api.Expr{Kind: api.EOp, Text: "=", Kids: []api.Expr{{Kind: api.EVar, Text: "z"}, k.expr(1+k.rnd.Intn(2), "y", "y", "z")}}
		x = api.Expr{Kind: api.ETuple, Kids: []api.Expr{same, x}}
		if k.rnd.Intn(3) == 0 {
			x.Kids[0], x.Kids[1] = x.Kids[1], x.Kids[0]
		}
	}
	return api.Expr{Kind: api.EFun, Text: "z", Kids: []api.Expr{{Kind: api.EFun, Text: "y", Kids: []api.Expr{x}}}}
}

// use: what is made of a name.
func (k *maker) use(f api.Expr) api.Expr {
	x := k.expr(0, "z", "y")
	switch k.rnd.Intn(4) {
	case 0:
		return f
	case 1:
		return api.Expr{Kind: api.EOp, Text: "=", Kids: []api.Expr{f, x}}
	case 2:
		return api.Expr{Kind: api.EOp, Text: "+", Kids: []api.Expr{{Kind: api.EApp, Kids: []api.Expr{f, x}}, {Kind: api.EInt}}}
	}
	return api.Expr{Kind: api.EApp, Kids: []api.Expr{f, x}}
}

func walk(p api.Pat, names *[]string) {
	if p.Kind == api.PVar {
		*names = append(*names, p.Text)
	}
	for _, q := range p.Kids {
		walk(q, names)
	}
}

func (k *maker) pat(deep int) api.Pat {
	n := 4
	if deep > 0 {
		n = 9
	}
	switch k.rnd.Intn(n) {
	case 0:
		return api.Pat{Kind: []byte{api.PAny, api.PInt, api.PText, api.PBool, api.PUnit, api.PNil}[k.rnd.Intn(6)]}
	case 4, 5:
		return api.Pat{Kind: api.PTuple, Kids: []api.Pat{k.pat(deep - 1), k.pat(deep - 1)}}
	case 6:
		return api.Pat{Kind: api.PCons, Kids: []api.Pat{k.pat(deep - 1), k.pat(deep - 1)}}
	case 7:
		return api.Pat{Kind: api.PCon, Text: k.one("A", "B", "C"), Kids: []api.Pat{k.pat(deep - 1)}}
	case 8:
		return api.Pat{Kind: api.PCon, Text: k.one("A", "B")}
	}
	return api.Pat{Kind: api.PVar, Text: k.one("x", "y", "z", "f", "g")}
}

// P7.1: random declarations have the type that the model finds.
func TestLikeModel(t *testing.T) {
	env := known(t, "type 'a t = A | B of 'a | C of 'a t * 'a ;; type ('a, 'b) u = U of 'a -> 'b ;; let pair = fun x y -> (x, y) ;; let any = fun x -> fail \"\" ;; let big = "+tuple(97))
	k := &maker{rand.New(rand.NewSource(7)), []string{"pair", "any", "any", "ref", "ref", "not", "size", "big", "nil"}}
	all := func(own, local []int) []int { return own }
	none := func(own, local []int) []int { return nil }
	yes, no, great, held, several := 0, 0, 0, 0, 0
	for range 60000 {
		d := api.Decl{Kind: api.DExpr, E: k.framed()}
		if k.rnd.Intn(2) == 0 {
			d.E = k.expr(2 + k.rnd.Intn(4))
		}
		if k.rnd.Intn(2) == 0 {
			d.Kind, d.Text = api.DLet, "x"
		}
		want, ok := modelled(env, d, infer.Great, free)
		_, got, e := infer.Decl(env, d)
		if (e == api.OK) != ok || e != api.OK && e != api.ErrType || !types.Alike(got, want) {
			t.Fatalf("%s: %s, %d, not %s, %v", print.Decl(d), print.Type(got.T), e, print.Type(want.T), ok)
		}
		other := func(most int, over func(own, local []int) []int) int {
			if s, o := modelled(env, d, most, over); o == ok && types.Alike(s, want) {
				return 0
			}
			return 1
		}
		great += other(1000000, free)
		held += other(infer.Great, all)
		several += other(infer.Great, none)
		if ok {
			yes++
		} else {
			no++
		}
	}
	if yes < 15000 || no < 20000 || great < 100 || held < 500 || several < 500 {
		t.Errorf("%d have a type, %d none, %d of them because it is great; %d would be another if local names didn't count, %d if no scheme were generalized", yes, no, great, held, several)
	}
}
