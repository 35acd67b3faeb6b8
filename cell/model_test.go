package cell_test

import (
	"strconv"
	"strings"

	"battledore/api"
	"battledore/infer"
	"battledore/parse"
	"battledore/print"
)

// The model evaluates the language as its words say. Its values know themselves what they are, so that they are told without types: int64, bool, unit, string, *row (nil is the empty list), and those below.
type (
	unit  struct{}
	row   struct{ head, rest any }
	tuple struct{ parts []any }
	holds struct{ v any }
	built struct {
		name string
		no   int
		arg  []any
	}
	native  string
	closure struct {
		name string
		body api.Expr
		in   *scope
	}
)

// scope is a name and what it refers to, and what was there before.
type scope struct {
	name string
	v    any
	out  *scope
}

// raised, dry: an exception, and that no step is left, are thrown.
type (
	raised string
	dry    struct{}
)

// book is a world of the model.
type book struct {
	env   infer.Env
	names *scope
	undo  []func() // what makes the refs what they were
	words int      // of all objects that were created, and of the cells' bytes
}

func newBook() *book {
	b := &book{env: infer.Base()}
	for _, s := range infer.Prims {
		b.names = &scope{s, native(s), b.names}
	}
	return b
}

// work is the execution of a cell.
type work struct {
	*book
	fuel   int
	result api.Outcome
}

// run: the outcome of a cell, what is left of the fuel, and how many words it made, if there was no error, or one of its execution.
func (b *book) run(s string, fuel int) (o api.Outcome, rest, words int) {
	l, at, e := parse.Cell(s)
	if e != api.OK {
		return api.Outcome{E: e, At: at}, fuel, 0
	}
	env, schemes, e := infer.Cell(b.env, l)
	if e != api.OK {
		return api.Outcome{E: e}, fuel, 0
	}
	w := &work{book: b, fuel: fuel}
	env, b.env = b.env, env
	names, before := b.names, b.words
	b.words += 20 * len(s)
	b.undo = nil
	w.finish(func() {
		for i, d := range l {
			w.declare(d, schemes[i].T)
		}
	})
	words = b.words - before
	if w.result.E != api.OK {
		b.back()
		b.env, b.names, b.words = env, names, before
		w.result.Binds = nil
	}
	return w.result, w.fuel, words
}

// back undoes what the last cell did to refs.
func (b *book) back() {
	for i := range b.undo {
		b.undo[len(b.undo)-1-i]()
	}
	b.undo = nil
}

// finish notes how it ends.
func (w *work) finish(do func()) {
	defer func() {
		switch x := recover().(type) {
		case nil:
		case raised:
			w.result.E, w.result.Raise = api.ErrRaise, string(x)
		case dry:
			w.result.E = api.ErrFuel
		default:
			panic(x)
		}
	}()
	do()
}

func (w *work) declare(d api.Decl, t api.Type) {
	if d.Kind == api.DType {
		return
	}
	v := w.recursive(d.Text, d.Rec, d.E, w.names)
	b := api.Binding{Name: "-", Type: print.Type(t), Value: shown(v)}
	if d.Kind == api.DLet {
		b.Name = d.Text
		w.names = &scope{d.Text, v, w.names}
	}
	w.result.Binds = append(w.result.Binds, b)
}

// recursive: a value that refers to itself, if it says so.
func (w *work) recursive(name string, rec bool, x api.Expr, in *scope) any {
	v := w.eval(x, in)
	if f, ok := v.(*closure); ok && rec {
		f.in = &scope{name, f, in}
	}
	return v
}

func (w *work) step() {
	if w.fuel == 0 {
		panic(dry{})
	}
	w.fuel--
}

// text: a new text.
func (w *work) text(s string) any {
	if len(s) > api.MaxString {
		panic(raised("long"))
	}
	w.words += 1 + (len(s)+7)/8
	return s
}

func (w *work) eval(x api.Expr, in *scope) any {
	sub := func(i int) any { return w.eval(x.Kids[i], in) }
	with := func(i int, name string, v any) any { return w.eval(x.Kids[i], &scope{name, v, in}) }
	switch x.Kind {
	case api.EInt:
		return x.N
	case api.EText:
		return w.text(x.Text)
	case api.EBool:
		return x.N == 1
	case api.EUnit:
		return unit{}
	case api.EVar:
		for in.name != x.Text {
			in = in.out
		}
		return in.v
	case api.ENil:
		return (*row)(nil)
	case api.EFun:
		w.words += 40
		return &closure{x.Text, x.Kids[0], in}
	case api.EApp:
		f := sub(0)
		return w.call(f, sub(1))
	case api.ELet:
		return with(1, x.Text, w.recursive(x.Text, x.Rec, x.Kids[0], in))
	case api.EIf:
		if sub(0).(bool) {
			return sub(1)
		}
		return sub(2)
	case api.EMatch:
		v := sub(0)
		for i, p := range x.Pats {
			if scope, ok := fits(p, v, in); ok {
				return w.eval(x.Kids[1+i], scope)
			}
		}
		panic(raised("match"))
	case api.ETry:
		text, v := w.caught(func() any { return sub(0) })
		if text != nil {
			return with(1, x.Text, text)
		}
		return v
	case api.ESeq:
		sub(0)
		return sub(1)
	case api.EOp:
		return w.operator(x.Text, sub(0), func() any { return sub(1) })
	case api.ENeg:
		return short(-sub(0).(int64))
	case api.EGet:
		return sub(0).(*holds).v
	}
	return w.object(x, sub)
}

// object: a new one.
func (w *work) object(x api.Expr, sub func(i int) any) any {
	var l []any
	for i := range x.Kids {
		l = append(l, sub(i))
	}
	if len(l) > 0 {
		w.words += 2 + len(l)
	}
	switch x.Kind {
	case api.ECons:
		return &row{l[0], l[1]}
	case api.ETuple:
		return &tuple{l}
	}
	for i, k := range w.env.Cons {
		if k.Name == x.Text {
			return &built{x.Text, i, l}
		}
	}
	panic("no constructor")
}

// caught: the text of an exception, or a value.
func (w *work) caught(do func() any) (text, v any) {
	defer func() {
		switch x := recover().(type) {
		case nil:
		case raised:
			text = string(x)
		default:
			panic(x)
		}
	}()
	return nil, do()
}

// fits: the names of a pattern, if it matches.
func fits(p api.Pat, v any, in *scope) (*scope, bool) {
	var parts []any
	switch p.Kind {
	case api.PVar:
		return &scope{p.Text, v, in}, true
	case api.PInt:
		return in, v == p.N
	case api.PText:
		return in, v == p.Text
	case api.PBool:
		return in, v == (p.N == 1)
	case api.PTuple:
		parts = v.(*tuple).parts
	case api.PNil:
		return in, v.(*row) == nil
	case api.PCons:
		if v.(*row) == nil {
			return in, false
		}
		parts = []any{v.(*row).head, v.(*row).rest}
	case api.PCon:
		if v.(*built).name != p.Text {
			return in, false
		}
		parts = v.(*built).arg
	}
	ok := true
	for i, k := range p.Kids {
		if in, ok = fits(k, parts[i], in); !ok {
			return in, false
		}
	}
	return in, true
}

// short: 63 bits.
func short(n int64) int64 { return n << 1 >> 1 }

func (w *work) operator(sign string, a any, second func() any) any {
	if sign == "&&" || sign == "||" {
		if a.(bool) == (sign == "||") {
			return a
		}
		return second()
	}
	b := second()
	switch sign {
	case "=":
		return w.alike(a, b)
	case "<>":
		return !w.alike(a, b)
	case "^":
		return w.text(a.(string) + b.(string))
	case ":=":
		old := a.(*holds).v
		w.undo = append(w.undo, func() { a.(*holds).v = old })
		a.(*holds).v = b
		return unit{}
	}
	m, n := a.(int64), b.(int64)
	if n == 0 && (sign == "/" || sign == "mod") {
		panic(raised("div"))
	}
	switch sign {
	case "+":
		m += n
	case "-":
		m -= n
	case "*":
		m *= n
	case "/":
		m /= n
	case "mod":
		m %= n
	case "<":
		return m < n
	case "<=":
		return m <= n
	}
	return short(m)
}

// alike: are two values equal? They are of the same type.
func (w *work) alike(a, b any) bool {
	w.step()
	switch x := a.(type) {
	case *row:
		y := b.(*row)
		if x == nil || y == nil {
			return x == y
		}
		return w.alike(x.head, y.head) && w.alike(x.rest, y.rest)
	case *tuple:
		for i, p := range x.parts {
			if !w.alike(p, b.(*tuple).parts[i]) {
				return false
			}
		}
		return true
	case *built:
		y := b.(*built)
		if len(x.arg) == 0 || len(y.arg) == 0 {
			return x.no == y.no
		}
		return w.alike(int64(x.no), int64(y.no)) && w.alike(x.arg[0], y.arg[0])
	case native, *closure:
		panic(raised("equal"))
	}
	return a == b
}

func (w *work) call(f, v any) any {
	w.step()
	if c, ok := f.(*closure); ok {
		return w.eval(c.body, &scope{c.name, v, c.in})
	}
	switch f.(native) {
	case "fail":
		panic(raised(v.(string)))
	case "itoa":
		return w.text(strconv.FormatInt(v.(int64), 10))
	case "not":
		return !v.(bool)
	case "ref":
		w.words += 3
		return &holds{v}
	case "size":
		return int64(len(v.(string)))
	case "print":
		w.result.Out += v.(string)[:min(len(v.(string)), api.MaxOut-len(w.result.Out))]
	default:
		if len(w.result.Moves) == api.MaxMoves {
			panic(raised("moves"))
		}
		w.result.Moves = append(w.result.Moves, api.Move{Turn: f.(native) == "turn", N: v.(int64)})
	}
	return unit{}
}

// shown: a value as it is told.
func shown(v any) string {
	var s strings.Builder
	show(&s, v)
	if s.Len() > api.MaxShow {
		return s.String()[:api.MaxShow] + "..."
	}
	return s.String()
}

func show(s *strings.Builder, v any) {
	if s.Len() > api.MaxShow {
		return
	}
	switch x := v.(type) {
	case int64:
		s.WriteString(strconv.FormatInt(x, 10))
	case bool:
		s.WriteString(strconv.FormatBool(x))
	case unit:
		s.WriteString("()")
	case string:
		s.WriteString(`"` + strings.NewReplacer("\n", `\n`, "\t", `\t`, `"`, `\"`, `\`, `\\`).Replace(x) + `"`)
	case *row:
		var l []any
		for ; x != nil && len(l) < api.MaxShow; x = x.rest.(*row) {
			l = append(l, x.head)
		}
		several(s, "[", l, "; ", "]")
	case *tuple:
		several(s, "(", x.parts, ", ", ")")
	case *holds:
		several(s, "{", []any{x.v}, "", "}")
	case *built:
		s.WriteString(x.name)
		if len(x.arg) > 0 {
			several(s, " (", x.arg, "", ")")
		}
	default:
		s.WriteString("<fun>")
	}
}

func several(s *strings.Builder, open string, l []any, between, shut string) {
	s.WriteString(open)
	for i, v := range l {
		if i > 0 {
			s.WriteString(between)
		}
		show(s, v)
	}
	s.WriteString(shut)
}
