package cell_test

import (
	"math/rand"
	"strconv"
	"strings"

	"battledore/api"
	"battledore/types"
)

// typed is a name, and its type.
type typed struct {
	name string
	t    api.Type
}

// maker writes random cells that have types. What has parts stands in brackets.
type maker struct {
	*rand.Rand
	scope []typed
}

// theTypes are the types that the cells use.
const theTypes = "type color = Red | Mix of color * color | Shade of int ;; type 'a tree = Leaf | Node of 'a tree * 'a * 'a tree ;; type ('a, 'b) way = Left of 'a | Right of 'b"

var (
	tInt, tBool, tUnit, tString, tColor = of("int"), of("bool"), of("unit"), of("string"), of("color")
	basic                               = []api.Type{tInt, tInt, tBool, tUnit, tString, tColor}
)

func (m *maker) one(l ...string) string { return l[m.Intn(len(l))] }

// kind: a random type.
func (m *maker) kind(deep int) api.Type {
	if deep == 0 || m.Intn(2) == 0 {
		return basic[m.Intn(len(basic))]
	}
	a := m.kind(deep - 1)
	switch m.Intn(7) {
	case 0:
		return of("list", a)
	case 1:
		return of("*", a, m.kind(deep-1))
	case 2:
		return of("*", a, m.kind(deep-1), m.kind(deep-1))
	case 3:
		return of("ref", a)
	case 4:
		return of("tree", a)
	case 5:
		return of("way", a, m.kind(deep-1))
	}
	return of("->", a, m.kind(deep-1))
}

func (m *maker) name() string { return m.one("a", "b", "c", "d", "e'", "x1", "y_", "print", "not") }

// known: the names of a type.
func (m *maker) known(t api.Type) []string {
	var l []string
	hidden := map[string]bool{}
	for i := range m.scope {
		k := m.scope[len(m.scope)-1-i]
		if !hidden[k.name] && types.Same(k.t, t) {
			l = append(l, k.name)
		}
		hidden[k.name] = true
	}
	return l
}

// in: a text, written where some more names are known.
func (m *maker) in(write func() string, l ...typed) string {
	n := len(m.scope)
	m.scope = append(m.scope, l...)
	s := write()
	m.scope = m.scope[:n]
	return s
}

// join: the texts of some things, with a text between each two.
func join[T any](l []T, between string, write func(T) string) string {
	var out []string
	for _, x := range l {
		out = append(out, write(x))
	}
	return strings.Join(out, between)
}

// expr: an expression of a type.
func (m *maker) expr(t api.Type, deep int) string {
	if l := m.known(t); len(l) > 0 && m.Intn(3) == 0 {
		return m.one(l...)
	}
	if deep <= 0 || m.Intn(3) == 0 {
		return m.plain(t, deep-1)
	}
	if m.Intn(3) == 0 {
		return m.own(t, deep-1)
	}
	return "(" + m.any(t, deep-1) + ")"
}

// plain: an expression of the form that a type's values have.
func (m *maker) plain(t api.Type, deep int) string {
	sub := func(k api.Type) string { return m.expr(k, deep) }
	switch t.Name {
	case "int":
		return m.one("0", "1", "2", "3", "5", "4611686018427387903")
	case "bool":
		return m.one("true", "false")
	case "unit":
		return "()"
	case "string":
		return m.one(`""`, `"a"`, `"b\n"`, `"div"`, `"some text"`, `"q\"\\t"`)
	case "list":
		return "[" + join(make([]int, m.Intn(3)), "; ", func(int) string { return sub(t.Kids[0]) }) + "]"
	case "*":
		return "(" + join(t.Kids, ", ", sub) + ")"
	case "ref":
		return "(ref " + sub(t.Kids[0]) + ")"
	case "->":
		s := m.name()
		return "(fun " + s + " -> " + m.in(func() string { return sub(t.Kids[1]) }, typed{s, t.Kids[0]}) + ")"
	case "color":
		if deep < 1 {
			return m.one("Red", "(Shade 1)")
		}
		return m.one("Red", "(Shade "+sub(tInt)+")", "(Mix ("+sub(t)+", "+sub(t)+"))")
	case "way":
		if m.Intn(2) == 0 {
			return "(Left " + sub(t.Kids[0]) + ")"
		}
		return "(Right " + sub(t.Kids[1]) + ")"
	}
	if deep < 1 || m.Intn(2) == 0 {
		return "Leaf"
	}
	return "(Node (" + sub(t) + ", " + sub(t.Kids[0]) + ", " + sub(t) + "))"
}

// own: an expression that only a type itself has.
func (m *maker) own(t api.Type, deep int) string {
	sub := func(k api.Type) string { return m.expr(k, deep) }
	switch t.Name {
	case "int":
		switch m.Intn(6) {
		case 0:
			return "(size " + sub(tString) + ")"
		case 1:
			return "(- " + sub(t) + ")"
		}
		return "(" + sub(t) + " " + m.one("+", "-", "*", "/", "mod") + " " + sub(t) + ")"
	case "bool":
		switch m.Intn(5) {
		case 0:
			return "(not " + sub(t) + ")"
		case 1:
			return "(" + sub(t) + m.one(" && ", " || ") + sub(t) + ")"
		case 2:
			return "(" + sub(tInt) + m.one(" < ", " <= ") + sub(tInt) + ")"
		}
		k := m.kind(2)
		return "(" + sub(k) + m.one(" = ", " <> ") + sub(k) + ")"
	case "unit":
		switch m.Intn(4) {
		case 0:
			return "(print " + sub(tString) + ")"
		case 1:
			return "(" + m.one("move ", "turn ") + sub(tInt) + ")"
		}
		k := m.kind(1)
		return "(" + sub(of("ref", k)) + " := " + sub(k) + ")"
	case "string":
		return m.one("(itoa "+sub(tInt)+")", "("+sub(t)+" ^ "+sub(t)+")")
	case "list":
		return "(" + sub(t.Kids[0]) + " :: " + sub(t) + ")"
	}
	return m.plain(t, deep)
}

// any: an expression that any type has.
func (m *maker) any(t api.Type, deep int) string {
	sub := func(k api.Type) string { return m.expr(k, deep) }
	s, k := m.name(), m.kind(2)
	switch m.Intn(12) {
	case 0:
		return "if " + sub(tBool) + " then " + sub(t) + " else " + sub(t)
	case 1, 2:
		return "let " + s + " = " + sub(k) + " in " + m.in(func() string { return sub(t) }, typed{s, k})
	case 3:
		return m.match(t, k, deep)
	case 4:
		return "try " + sub(t) + " with " + s + " -> " + m.in(func() string { return sub(t) }, typed{s, tString})
	case 5:
		return sub(tUnit) + "; " + sub(t)
	case 6, 7:
		return sub(of("->", k, t)) + " " + sub(k)
	case 8:
		return "!" + sub(of("ref", t))
	case 9:
		return m.loop("l"+s, t, deep) + " in l" + s + " " + m.one("0", "1", "3", "9")
	case 10:
		return m.function("f"+s, t, k, deep) + " in f" + s + " " + sub(k) + " " + sub(tInt)
	}
	return m.one("fail "+sub(tString), "1 / 0; "+sub(t), sub(t))
}

// loop: the binding of a function that calls itself so many times as its argument says.
func (m *maker) loop(f string, t api.Type, deep int) string {
	s := m.name()
	first := m.in(func() string { return m.expr(t, deep) }, typed{f, of("hidden")}, typed{s, tInt})
	more := m.in(func() string { return m.expr(t, deep) }, typed{f, of("hidden")}, typed{s, tInt}, typed{"r", t})
	return "let rec " + f + " " + s + " = if " + s + " <= 0 then " + first + " else let r = " + f + " (" + s + " - 1) in " + more
}

// function: the binding of a function of two.
func (m *maker) function(f string, t, k api.Type, deep int) string {
	a, b := m.name(), m.name()
	return "let " + f + " " + a + " " + b + " = " + m.in(func() string { return m.expr(t, deep) }, typed{a, k}, typed{b, tInt})
}

func (m *maker) match(t, k api.Type, deep int) string {
	s := "match " + m.expr(k, deep) + " with"
	for i := range 1 + m.Intn(3) {
		var l []typed
		p := m.pattern(k, 2, &l, map[string]bool{})
		s += " | " + p + " -> " + m.in(func() string { return m.expr(t, deep-i) }, l...)
	}
	return s
}

// pattern: one of a type, and its names.
func (m *maker) pattern(k api.Type, deep int, l *[]typed, used map[string]bool) string {
	sub := func(k api.Type) string { return m.pattern(k, deep-1, l, used) }
	if s := m.name(); m.Intn(3) == 0 && !used[s] {
		used[s] = true
		*l = append(*l, typed{s, k})
		return s
	}
	if deep == 0 || m.Intn(5) == 0 {
		return "_"
	}
	switch k.Name {
	case "int":
		return m.one("0", "1", "- 1", "3")
	case "bool":
		return m.one("true", "false")
	case "unit":
		return "()"
	case "string":
		return m.one(`""`, `"a"`, `"some text"`, `"div"`)
	case "list":
		if m.Intn(3) == 0 {
			return m.one("[]", "["+sub(k.Kids[0])+"]")
		}
		return "(" + sub(k.Kids[0]) + " :: " + sub(k) + ")"
	case "*":
		return "(" + join(k.Kids, ", ", sub) + ")"
	case "color":
		switch m.Intn(3) {
		case 0:
			return "Red"
		case 1:
			return "(Shade " + sub(tInt) + ")"
		}
		return "(Mix (" + sub(k) + ", " + sub(k) + "))"
	case "tree":
		if m.Intn(3) == 0 {
			return "Leaf"
		}
		return "(Node (" + sub(k) + ", " + sub(k.Kids[0]) + ", " + sub(k) + "))"
	case "way":
		if m.Intn(2) == 0 {
			return "(Left " + sub(k.Kids[0]) + ")"
		}
		return "(Right " + sub(k.Kids[1]) + ")"
	}
	return "_"
}

// cell: a cell of some declarations; its names are known to those that follow.
func (m *maker) cell() string {
	var l []string
	for range 1 + m.Intn(3) {
		t, s := m.kind(2), m.name()
		switch m.Intn(6) {
		case 0, 1:
			l = append(l, m.expr(t, 3))
		case 2:
			l = append(l, m.loop("l"+s, t, 2))
			m.scope = append(m.scope, typed{"l" + s, of("->", tInt, t)})
		case 3:
			k := m.kind(1)
			l = append(l, m.function("f"+s, t, k, 3))
			m.scope = append(m.scope, typed{"f" + s, of("->", k, of("->", tInt, t))})
		default:
			l = append(l, "let "+s+" = "+m.expr(t, 3))
			m.scope = append(m.scope, typed{s, t})
		}
	}
	return strings.Join(l, m.one(";;", " ;; ", "\n;; (* "+strconv.Itoa(m.Intn(9))+" *)"))
}
