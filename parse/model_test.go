package parse_test

import (
	"math/rand"
	"strconv"
	"strings"
	"testing"

	"battledore/api"
	"battledore/lex"
	"battledore/parse"
)

// grammar is that of the document; what has no line of its own is a token. N, C, V, I and S are a name, a constructor, a variable, a number and a string. What a name is used for twice, and rec, and MaxNest, it doesn't know; OR is |, which stands between what there may be.
const grammar = `
cell: | ;; cell | decl | decl ;; cell
decl: let binding | type vars N = ctors | type vars N = OR ctors | expr
binding: N names = expr
names: | N names
expr: term | term ; expr
term: set | let binding in expr | fun N names -> expr | if expr then term else term | match expr with arms | match expr with OR arms | try expr with N -> expr
arms: pat -> expr | pat -> expr OR arms
set: or | or := set
or: and | or OROR and
and: same | and && same
same: cons | same = cons | same <> cons | same <= cons | same < cons
cons: sum | sum :: cons | sum ^ cons
sum: product | sum + product | sum - product
product: neg | product * neg | product / neg | product mod neg
neg: call | - neg
call: C | C atom | calls
calls: other | calls atom
atom: C | other
other: I | S | N | true | false | ! atom | ( ) | ( expr ) | ( expr , exprs ) | [ ] | [ terms ]
exprs: expr | expr , exprs
terms: term | term ; terms
pat: simple | simple :: pat
simple: C | C patatom | patother
patatom: C | patother
patother: I | - I | S | N | _ | true | false | ( ) | ( pat ) | ( pat , pats ) | [ ] | [ patlist ]
pats: pat | pat , pats
patlist: pat | pat ; patlist
vars: | V | ( varlist )
varlist: V | V , varlist
ctors: ctor | ctor OR ctors
ctor: C | C of ty
ty: prod | prod -> ty
prod: applied | applied * prod
applied: head | applied N
head: V | N | ( ty ) | ( ty , tys ) N
tys: ty | ty , tys`

// rules: by what they are for, what it may consist of.
func rules() map[string][][]string {
	g := map[string][][]string{}
	for _, line := range strings.Split(strings.TrimSpace(grammar), "\n") {
		name, bodies, _ := strings.Cut(line, ":")
		for _, body := range strings.Split(bodies, " | ") {
			g[name] = append(g[name], strings.Fields(strings.ReplaceAll(body, "OR", "|")))
		}
	}
	return g
}

// item is a rule that has been gone through as far as dot, from the set from on.
type item struct {
	name            string
	body, dot, from int
}

// accepts goes through tokens from the left, as Earley does: how many of them a cell can begin with, and whether they are a cell.
func accepts(g map[string][][]string, l []string) (int, bool) {
	sets := make([][]item, len(l)+1)
	known := make([]map[item]bool, len(l)+1)
	add := func(i int, x item) {
		if known[i] == nil {
			known[i] = map[item]bool{}
		}
		if !known[i][x] {
			known[i][x] = true
			sets[i] = append(sets[i], x)
		}
	}
	for b := range g["cell"] {
		add(0, item{"cell", b, 0, 0})
	}
	whole := false
	for i := 0; i <= len(l) && len(sets[i]) > 0; i++ {
		whole = false
		for j := 0; j < len(sets[i]); j++ {
			x := sets[i][j]
			body := g[x.name][x.body]
			if x.dot == len(body) {
				whole = whole || x.name == "cell" && x.from == 0
				for _, y := range sets[x.from] {
					if b := g[y.name][y.body]; y.dot < len(b) && b[y.dot] == x.name {
						add(i, item{y.name, y.body, y.dot + 1, y.from})
					}
				}
			} else if next := body[x.dot]; g[next] != nil {
				for b := range g[next] {
					add(i, item{next, b, 0, i})
				}
				if next == "names" || next == "vars" || next == "cell" { // they may be nothing
					add(i, item{x.name, x.body, x.dot + 1, x.from})
				}
			} else if i < len(l) && l[i] == next {
				add(i+1, item{x.name, x.body, x.dot + 1, x.from})
			}
		}
		if i < len(l) && len(sets[i+1]) == 0 {
			return i, false
		}
	}
	return len(l), whole
}

// derive makes tokens by the grammar.
func derive(g map[string][][]string, name string, deep int, rnd *rand.Rand) []string {
	if g[name] == nil {
		return []string{name}
	}
	bodies := g[name]
	body := bodies[0] // it leads to an end
	if deep > 0 {
		body = bodies[rnd.Intn(len(bodies))]
	}
	var out []string
	for _, s := range body {
		out = append(out, derive(g, s, deep-1, rnd)...)
	}
	return out
}

// spelt: a text that has these tokens, where no name, constructor or variable is there twice; and where they begin.
func spelt(l []string) (string, []int) {
	var b strings.Builder
	var at []int
	for i, s := range l {
		b.WriteString(strings.Repeat(" ", i%2+1))
		at = append(at, b.Len())
		n := strconv.Itoa(i)
		b.WriteString(map[string]string{"N": "n" + n, "C": "C" + n, "V": "'v", "I": n, "S": `"` + n + `"`}[s])
		if !strings.Contains("NCVIS", s) {
			b.WriteString(s)
		}
	}
	return b.String(), append(at, b.Len())
}

// P4.1: the first token that is not allowed at its position, held against a model that knows only the grammar; random cells, and such that have been damaged.
func TestLikeGrammar(t *testing.T) {
	g := rules()
	rnd := rand.New(rand.NewSource(44))
	words := strings.Fields("let type fun if then else match with try in of mod true false -> := ;; <> <= :: || && ( ) [ ] , ; | = < + - * / ^ ! _ N C V I S N C I")
	faults, cells := 0, 0
	for range 8000 {
		l := derive(g, "cell", 4+rnd.Intn(12), rnd)
		for range rnd.Intn(3) {
			i := rnd.Intn(len(l) + 1)
			j := min(len(l), i+rnd.Intn(2))
			var in []string
			if rnd.Intn(3) > 0 {
				in = append(in, words[rnd.Intn(len(words))])
			}
			l = append(append(append([]string{}, l[:i]...), in...), l[j:]...)
		}
		if len(l) > 70 {
			continue
		}
		s, at := spelt(l)
		fault, whole := accepts(g, l)
		_, gotAt, e := parse.Cell(s)
		switch e {
		case api.OK:
			cells++
			if !whole {
				t.Fatalf("Cell(%q): valid; the model: not at %d", s, at[fault])
			}
		case api.ErrText:
			faults++
			if whole || gotAt != at[fault] {
				t.Fatalf("Cell(%q): ErrText at %d; the model: %v, at %d", s, gotAt, whole, at[fault])
			}
		default: // what the grammar doesn't know: the tokens as far as there must be allowed
			if gotAt > at[fault] || e != api.ErrDeep && gotAt == at[fault] {
				t.Fatalf("Cell(%q): %d at %d; the model: at %d", s, e, gotAt, at[fault])
			}
		}
		if tokens, _, _ := lex.Tokens(s); len(tokens) != len(l)+1 {
			t.Fatalf("%q has %d tokens, not %d", s, len(tokens)-1, len(l))
		}
	}
	if faults < 1000 || cells < 1000 {
		t.Errorf("only %d faults, %d cells", faults, cells)
	}
}
