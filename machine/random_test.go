package machine_test

import (
	"math/rand"
	"strconv"
	"strings"
	"testing"

	"battledore/api"
	"battledore/code"
	"battledore/heap"
	"battledore/infer"
	"battledore/machine"
	"battledore/parse"
)

// maker makes texts of cells that have a type. The types: u is A | B of int | C of (u * string), p is int * string, l is int list, r is int ref, f is int -> int.
type maker struct {
	*rand.Rand
	names []named
}

type named struct{ name, of string }

const someTypes = "type u = A | B of int | C of (u * string)"

func (m *maker) name() string { return "v" + strconv.Itoa(m.Intn(6)) }

// within: an expression, where there are some more names.
func (m *maker) within(of string, deep int, l ...named) string {
	n := len(m.names)
	m.names = append(m.names, l...)
	s := m.make(of, deep)
	m.names = m.names[:n]
	return s
}

// leaf: a short expression of a type.
func (m *maker) leaf(of string) string {
	met := map[string]bool{}
	for i := len(m.names) - 1; i >= 0; i-- {
		if k := m.names[i]; !met[k.name] && k.of == of && m.Intn(3) > 0 {
			return k.name
		}
		met[m.names[i].name] = true
	}
	switch of {
	case "int":
		return strconv.Itoa(m.Intn(5))
	case "bool":
		return []string{"true", "false"}[m.Intn(2)]
	case "string":
		return []string{`""`, `"a"`, `"some letters"`}[m.Intn(3)]
	case "unit":
		return []string{"()", `(print "o")`, "(move 1)", "(turn 2)"}[m.Intn(4)]
	case "l":
		return []string{"[]", "[1; 2]"}[m.Intn(2)]
	case "p":
		return `(3, "p")`
	case "r":
		return "(ref 4)"
	case "f":
		return "(fun q -> q + 1)"
	}
	return []string{"A", "(B 6)", `(C (A, "c"))`}[m.Intn(3)]
}

var allTypes = [...]string{"int", "bool", "string", "unit", "l", "p", "r", "f", "u"}

func (m *maker) any() string { return allTypes[m.Intn(len(allTypes))] }

// make: an expression of a type.
func (m *maker) make(of string, deep int) string {
	if deep <= 0 || m.Intn(12) == 0 {
		return m.leaf(of)
	}
	if m.Intn(3) > 0 {
		return "(" + m.own(of, deep-1) + ")"
	}
	return "(" + m.common(of, deep-1) + ")"
}

// common: an expression such as there are of all types.
func (m *maker) common(of string, deep int) string {
	x, y, same := m.name(), m.name(), func() string { return m.make(of, deep) }
	switch m.Intn(11) {
	case 0:
		return "if " + m.make("bool", deep) + " then " + same() + " else " + same()
	case 1:
		t := m.any()
		return "let " + x + " = " + m.make(t, deep) + " in " + m.within(of, deep, named{x, t})
	case 2:
		return "match " + m.make("l", deep) + " with [] -> " + same() + " | " + x + " :: _ -> " + m.within(of, deep, named{x, "int"})
	case 3:
		return "match " + m.make("u", deep) + " with B " + x + " -> " + m.within(of, deep, named{x, "int"}) + " | C (" + x + ", k) -> " + m.within(of, deep, named{x, "u"}, named{"k", "string"})
	case 4:
		return "match " + m.make("p", deep) + ` with (1, "a") -> ` + same() + " | (" + x + ", k) -> " + m.within(of, deep, named{x, "int"}, named{"k", "string"})
	case 5:
		return "try " + same() + " with " + x + " -> " + m.within(of, deep, named{x, "string"})
	case 6:
		return m.make("unit", deep) + "; " + same()
	case 7:
		return "fail " + m.make("string", deep)
	case 8:
		t := m.any()
		return "(fun " + x + " -> " + m.within(of, deep, named{x, t}) + ") " + m.make(t, deep)
	case 9:
		y = "n" + y
		return "let rec h = fun " + y + " -> if " + y + " <= 0 then " + same() + " else let k = h (" + y + " - 1) in " + m.within(of, deep, named{y, "int"}, named{"k", of}) + " in h " + strconv.Itoa(m.Intn(4))
	}
	t := m.any()
	return "let z = [" + m.make(t, deep) + "; " + m.make(t, deep) + "] in match z with " + x + " :: " + "_ -> " + m.within(of, deep, named{x, t})
}

// own: an expression such as there are of one type.
func (m *maker) own(of string, deep int) string {
	of2 := func(a, sign, b string) string { return m.make(a, deep) + " " + sign + " " + m.make(b, deep) }
	switch of {
	case "int":
		return []func() string{
			func() string { return of2("int", []string{"+", "-", "*", "/", "mod"}[m.Intn(5)], "int") },
			func() string { return "size " + m.make("string", deep) },
			func() string { return m.make("f", deep) + " " + m.make("int", deep) },
			func() string { return "!" + m.make("r", deep) },
			func() string { return "- " + m.make("int", deep) },
		}[m.Intn(5)]()
	case "bool":
		t := m.any()
		return []func() string{
			func() string { return of2(t, []string{"=", "<>"}[m.Intn(2)], t) },
			func() string { return of2("int", []string{"<", "<="}[m.Intn(2)], "int") },
			func() string { return of2("bool", []string{"&&", "||"}[m.Intn(2)], "bool") },
			func() string { return "not " + m.make("bool", deep) },
		}[m.Intn(4)]()
	case "string":
		if m.Intn(3) == 0 {
			return "itoa " + m.make("int", deep)
		}
		return of2("string", "^", "string")
	case "unit":
		if m.Intn(2) == 0 {
			return of2("r", ":=", "int")
		}
		if m.Intn(2) == 0 {
			return "print " + m.make("string", deep)
		}
		return []string{"move ", "turn "}[m.Intn(2)] + m.make("int", deep)
	case "l":
		return of2("int", "::", "l")
	case "p":
		return of2("int", ",", "string")
	case "r":
		return "ref " + m.make("int", deep)
	case "f":
		x := m.name()
		return "fun " + x + " -> " + m.within("int", deep, named{x, "int"})
	}
	if m.Intn(2) == 0 {
		return "B " + m.make("int", deep)
	}
	return "C (" + of2("u", ",", "string") + ")"
}

// literal: a value whose type has no variables. (What may have any type can't be bound.)
func literal(of string) string {
	return map[string]string{"int": "0", "bool": "true", "string": `""`, "unit": "()", "l": "[1]", "p": `(1, "")`, "r": "ref 1", "f": "fun q -> q + 1", "u": "A"}[of]
}

// cells: declarations, each of which may use the names of those before it.
func (m *maker) cells() []string {
	l := []string{someTypes}
	for i := range 2 + m.Intn(4) {
		of := m.any()
		s := m.make(of, 2+m.Intn(4))
		name := "g" + strconv.Itoa(i)
		l = append(l, "let "+name+" = if true then "+s+" else "+literal(of))
		m.names = append(m.names, named{name, of})
	}
	return l
}

// compiled is the functions of a declaration, after those of others, and whether its value is bound.
type compiled struct {
	text  string
	funs  []code.Fun
	bound bool
}

// compile: the declarations of cells, as far as they are valid.
func compile(t *testing.T, cells []string) []compiled {
	t.Helper()
	env := infer.Base()
	var l []compiled
	first := 0
	for _, s := range cells {
		decls, _, e := parse.Cell(s)
		if e == api.ErrLong || e == api.ErrDeep {
			break
		}
		next, _, e2 := infer.Cell(env, decls)
		if e != api.OK || e2 != api.OK {
			t.Fatalf("%s: %d, %d", s, e, e2)
		}
		for _, d := range decls {
			if d.Kind == api.DType {
				continue
			}
			self := ""
			if d.Rec {
				self = d.Text
			}
			funs, e := code.Compile(namesOf(env), self, d.E, first)
			if e != api.OK {
				t.Fatalf("%s: %d", s, e)
			}
			first += len(funs)
			l = append(l, compiled{s, funs, d.Kind == api.DLet})
		}
		env = next
	}
	return l
}

func namesOf(env infer.Env) code.Names {
	var n code.Names
	for _, v := range env.Vals {
		n.Globs = append(n.Globs, v.Name)
	}
	for _, k := range env.Cons {
		n.Cons = append(n.Cons, k.Name)
	}
	return n
}

// counts is what random cells came to.
type counts struct{ ends, collections, full map[string]int }

// agree: a machine with so many words does what the model does. Where there is not enough room, nothing has changed.
func agree(t *testing.T, l []compiled, quota int, fuel int, seen counts) (peak int) {
	t.Helper()
	m, model := made(t, quota), newModel()
	for _, d := range l {
		if e := m.Add(d.funs); e != api.OK {
			t.Fatalf("%s: %d", d.text, e)
		}
		model.funs = append(model.funs, d.funs...)
		before, copy := stateOf(m), m.Copy()
		want, v := model.run(len(model.funs)-1, fuel, 3, 9)
		peak = max(peak, model.peak)
		r := m.Run(len(model.funs)-1, fuel, 3, 9)
		if model.peak > quota {
			if r.E != api.ErrMem || r.W != 0 || r.Raise != "" {
				t.Fatalf("%s, %d words, not %d: %s", d.text, quota, model.peak, told(m, r))
			}
			mustBe(t, d.text, m, before)
			seen.full["full"]++
			return peak
		}
		if got := told(m, r); got != want {
			t.Fatalf("%s, %d words: %s, not %s", d.text, quota, got, want)
		}
		if again := told(copy, copy.Run(len(model.funs)-1, fuel, 3, 9)); again != want {
			t.Fatalf("%s, by a copy: %s, not %s", d.text, again, want)
		}
		seen.ends[want[:strings.IndexAny(want+";", ";")]]++
		seen.collections["some"] += m.Heap().Collections()
		if r.E != api.OK {
			mustBe(t, d.text, m, before)
			return peak
		}
		if d.bound {
			if e := m.Bind(r.W); e != api.OK {
				t.Fatalf("%s: Bind: %d", d.text, e)
			}
			model.globs = append(model.globs, v)
		}
	}
	m.Tidy()
	for i, v := range model.globs {
		if got, want := show(m.Heap(), m.Globals()[i], 9), spelt(v, 9); got != want {
			t.Fatalf("%s: the global %d is %s, not %s", l[len(l)-1].text, i, got, want)
		}
	}
	if live := words(map[*obj]bool{}, model.globs); m.Heap().Used() != live {
		t.Fatalf("%s: %d words are left, not %d", l[len(l)-1].text, m.Heap().Used(), live)
	}
	return peak
}

// P10.2, P10.3, P10.4: random cells come to what the model comes to, with just enough room as with much; with one word less there is not enough.
func TestRandomCells(t *testing.T) {
	seen := counts{map[string]int{}, map[string]int{}, map[string]int{}}
	for seed := range int64(3000) {
		m := &maker{Rand: rand.New(rand.NewSource(seed))}
		l := compile(t, m.cells())
		if len(l) == 0 {
			continue
		}
		fuel := []int{3, 20, 300, 2000}[seed%4]
		peak := agree(t, l, api.MaxWords/64, fuel, seen)
		for _, quota := range []int{peak, peak + 1, peak - 1, peak + int(seed%40), 16 + int(seed%30)} {
			if quota >= 16 {
				agree(t, l, quota, fuel, seen)
			}
		}
	}
	if seen.ends["E0"] < 5000 || seen.ends["E9"] < 500 || seen.ends["E10"] < 500 || seen.collections["some"] < 5000 || seen.full["full"] < 3000 {
		t.Errorf("the cells came to %v, %v, %v", seen.ends, seen.collections, seen.full)
	}
}

// P10.2: a machine that is made of another one's heap, functions and globals goes on like it.
func TestRandomRestore(t *testing.T) {
	for seed := range int64(300) {
		k := &maker{Rand: rand.New(rand.NewSource(seed))}
		m := made(t, 400)
		for _, d := range compile(t, k.cells()) {
			h, e := heap.Load(400, m.Heap().Words())
			other, e2 := machine.Restore(h, m.Funs(), m.Globals())
			if e != api.OK || e2 != api.OK || other.Add(d.funs) != api.OK || m.Add(d.funs) != api.OK {
				t.Fatalf("%s: %d, %d", d.text, e, e2)
			}
			r, r2 := m.Run(len(m.Funs())-1, 100, 3, 9), other.Run(len(m.Funs())-1, 100, 3, 9)
			if told(m, r) != told(other, r2) || r.W != r2.W {
				t.Fatalf("%s: %s, %s", d.text, told(m, r), told(other, r2))
			}
			if r.E != api.OK {
				break
			}
			if m.Bind(r.W) != api.OK {
				t.Fatal("Bind")
			}
		}
	}
}
