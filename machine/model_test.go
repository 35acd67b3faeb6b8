package machine_test

import (
	"strconv"
	"strings"

	"battledore/api"
	"battledore/code"
	"battledore/heap"
)

// value is a number (int64), or an object of the model.
type value any

type obj struct {
	kind  byte
	parts []value
	text  string
}

// raised, spent and stuck are thrown: an exception with its text, as an object if it is one already; that no step is left; that nothing can be done.
type raised struct {
	text string
	of   *obj
}

type spent struct{}

type stuck struct{}

// frame is a function of the model that runs.
type frame struct {
	self  value
	stack []value
}

// model executes instructions on objects that nothing removes. It tells how many words the heap must have: how many are reached whenever an object is made, and its own.
type model struct {
	funs   []code.Fun
	globs  []value
	frames []*frame
	fuel   int
	moves  int
	room   int
	out    string
	made   []api.Move
	peak   int
}

func newModel() *model {
	m := &model{}
	for i := range int64(8) {
		m.globs = append(m.globs, &obj{kind: heap.KPrim, parts: []value{i}})
	}
	return m
}

// words: how many words are reached.
func words(met map[*obj]bool, l []value) int {
	n := 0
	for len(l) > 0 {
		o, ok := l[len(l)-1].(*obj)
		l = l[:len(l)-1]
		if ok && !met[o] {
			met[o] = true
			n += o.need()
			l = append(append([]value{}, l...), o.parts...)
		}
	}
	return n
}

func (o *obj) need() int {
	if o.kind == heap.KText {
		return 1 + (len(o.text)+7)/8
	}
	return 1 + len(o.parts)
}

func (m *model) put(o *obj) *obj {
	met := map[*obj]bool{}
	n := words(met, m.globs) + words(met, o.parts)
	for _, f := range m.frames {
		n += words(met, append([]value{f.self}, f.stack...))
	}
	m.peak = max(m.peak, n+o.need())
	return o
}

func (m *model) text(s string) *obj {
	if len(s) > api.MaxString {
		panic(raised{text: "long"})
	}
	return m.put(&obj{kind: heap.KText, text: s})
}

func (m *model) step() {
	if m.fuel == 0 {
		panic(spent{})
	}
	m.fuel--
}

// of: an object of a kind.
func of(kind byte, v value) *obj {
	o, ok := v.(*obj)
	if !ok || o.kind != kind {
		panic(stuck{})
	}
	return o
}

func short(n int64) int64 { return n << 1 >> 1 }

func truth(b bool) int64 {
	if b {
		return 1
	}
	return 0
}

// exec: what a function answers.
func (m *model) exec(n int64, self value, arg value) value {
	f := &frame{self, []value{arg}}
	m.frames = append(m.frames, f)
	at := int64(0)
	var tries []open
	for m.funs[n].Code[at].Op != code.Ret {
		m.one(n, f, &at, &tries)
	}
	m.frames = m.frames[:len(m.frames)-1]
	return f.pop()
}

// open is a try: where it leads, how many values and functions there were.
type open struct {
	at            int64
	depth, frames int
}

// one executes an instruction, or catches what it throws.
func (m *model) one(n int64, f *frame, at *int64, tries *[]open) {
	defer func() {
		thrown := recover()
		x, ok := thrown.(raised)
		if thrown == nil {
			return
		}
		if !ok || len(*tries) == 0 {
			panic(thrown)
		}
		last := (*tries)[len(*tries)-1]
		*tries = (*tries)[:len(*tries)-1]
		m.frames = m.frames[:last.frames]
		f.stack = f.stack[:last.depth]
		*at = last.at
		if x.of == nil {
			x.of = m.text(x.text)
		}
		f.push(x.of)
	}()
	x := m.funs[n].Code[*at]
	*at++
	switch x.Op {
	case code.Jump:
		*at = x.N
	case code.False:
		if f.pop() == value(int64(0)) {
			*at = x.N
		}
	case code.Try:
		*tries = append(*tries, open{x.N, len(f.stack), len(m.frames)})
	case code.Untry:
		*tries = (*tries)[:len(*tries)-1]
	case code.Self:
		if f.self == nil {
			f.push(m.put(&obj{kind: heap.KFun, parts: []value{n}}))
		} else {
			f.push(f.self)
		}
	default:
		m.plain(f, x)
	}
}

func (f *frame) push(v value) { f.stack = append(f.stack, v) }

func (f *frame) pop() value { return f.take(1)[0] }

func (f *frame) take(n int) []value {
	i := len(f.stack) - n
	l := append([]value{}, f.stack[i:]...)
	f.stack = f.stack[:i]
	return l
}

func (m *model) plain(f *frame, x code.Ins) {
	n := int(x.N)
	switch x.Op {
	case code.Int:
		f.push(short(x.N))
	case code.Text:
		f.push(m.text(x.S))
	case code.Local:
		f.push(f.stack[n])
	case code.Cap:
		f.push(f.self.(*obj).parts[n+1])
	case code.Glob:
		f.push(m.globs[n])
	case code.Clos:
		f.push(m.put(&obj{kind: heap.KFun, parts: append([]value{x.N}, f.take(x.A)...)}))
	case code.Call:
		l := f.take(2)
		f.push(m.call(l[0], l[1]))
	case code.Tuple:
		f.push(m.put(&obj{kind: heap.KTuple, parts: f.take(n)}))
	case code.Con:
		f.push(m.put(&obj{kind: heap.KCon, parts: []value{x.N, f.pop()}}))
	case code.Field:
		o := f.pop().(*obj)
		f.push(o.parts[n+int(truth(o.kind == heap.KCon))])
	case code.IsInt, code.IsText, code.IsPtr, code.IsCon:
		f.push(truth(is(x, f.pop())))
	case code.Slide:
		v := f.pop()
		f.take(n)
		f.push(v)
	case code.Pop:
		f.pop()
	case code.Op:
		l := f.take(2)
		f.push(m.operator(x.N, l[0], l[1]))
	case code.Neg:
		f.push(short(-f.pop().(int64)))
	case code.Ref:
		f.push(m.put(&obj{kind: heap.KRef, parts: f.take(1)}))
	case code.Get:
		f.push(of(heap.KRef, f.pop()).parts[0])
	case code.Fail:
		panic(raised{text: x.S})
	default:
		panic("no instruction")
	}
}

// is: what IsInt, IsText, IsPtr and IsCon ask for.
func is(x code.Ins, v value) bool {
	o, isObject := v.(*obj)
	switch x.Op {
	case code.IsInt:
		return v == value(short(x.N))
	case code.IsText:
		return isObject && o.kind == heap.KText && o.text == x.S
	case code.IsPtr:
		return isObject
	}
	return isObject && o.kind == heap.KCon && o.parts[0] == value(x.N)
}

func (m *model) call(f, v value) value {
	m.step()
	o, ok := f.(*obj)
	if ok && o.kind == heap.KFun {
		return m.exec(o.parts[0].(int64), o, v)
	}
	n, _ := v.(int64)
	switch of(heap.KPrim, f).parts[0].(int64) {
	case fail:
		panic(raised{of(heap.KText, v).text, v.(*obj)})
	case itoa:
		return m.text(strconv.FormatInt(n, 10))
	case move:
		m.move(api.Move{N: n})
	case not:
		return short(1 - n)
	case print:
		s := of(heap.KText, v).text
		m.out += s[:min(len(s), m.room-len(m.out))]
	case ref:
		return m.put(&obj{kind: heap.KRef, parts: []value{v}})
	case size:
		return int64(len(of(heap.KText, v).text))
	case turn:
		m.move(api.Move{Turn: true, N: n})
	}
	return int64(0)
}

func (m *model) move(x api.Move) {
	if len(m.made) == m.moves {
		panic(raised{text: "moves"})
	}
	m.made = append(m.made, x)
}

// operator: what one makes of two.
func (m *model) operator(sign int64, a, b value) value {
	switch sign {
	case code.Eq:
		return truth(m.same(a, b))
	case code.Ne:
		return 1 - truth(m.same(a, b))
	case code.Cat:
		return m.text(of(heap.KText, a).text + of(heap.KText, b).text)
	case code.Set:
		of(heap.KRef, a).parts[0] = b
		return int64(0)
	}
	x, y := a.(int64), b.(int64)
	if (sign == code.Div || sign == code.Mod) && y == 0 {
		panic(raised{text: "div"})
	}
	switch sign {
	case code.Add:
		return short(x + y)
	case code.Sub:
		return short(x - y)
	case code.Mul:
		return short(x * y)
	case code.Div:
		return short(x / y)
	case code.Mod:
		return x % y
	case code.Lt:
		return truth(x < y)
	}
	return truth(x <= y)
}

// same: are two values equal? Each pair is a step.
func (m *model) same(a, b value) bool {
	m.step()
	x, ok := a.(*obj)
	y, both := b.(*obj)
	if !ok || !both {
		return a == b
	}
	if x.kind >= heap.KFun && y.kind >= heap.KFun {
		panic(raised{text: "equal"})
	}
	if x.kind == heap.KRef {
		return x == y
	}
	for i := range x.parts {
		if !m.same(x.parts[i], y.parts[i]) {
			return false
		}
	}
	return x.text == y.text
}

// spelt: a value as show tells it.
func spelt(v value, deep int) string {
	o, ok := v.(*obj)
	if !ok {
		return strconv.FormatInt(v.(int64), 10)
	}
	if deep == 0 {
		return "..."
	}
	var l []string
	for _, p := range o.parts {
		l = append(l, spelt(p, deep-1))
	}
	s := strings.Join(l, " ")
	switch o.kind {
	case heap.KText:
		return strconv.Quote(o.text)
	case heap.KTuple:
		return "(" + s + ")"
	case heap.KCon:
		return "#(" + s + ")"
	case heap.KRef:
		return "{" + s + "}"
	case heap.KFun:
		return "<fun " + s + ">"
	}
	return "<prim " + s + ">"
}

// run: what a run comes to, as told tells it; and what was answered.
func (m *model) run(fun, fuel, moves, room int) (s string, v value) {
	m.fuel, m.moves, m.room, m.out, m.made, m.frames, m.peak = fuel, moves, room, "", nil, nil, words(map[*obj]bool{}, m.globs)
	var l []string
	defer func() {
		switch x := recover().(type) {
		case nil:
		case raised:
			if x.of != nil {
				x.text = x.of.text
			}
			l = append(l, "E9")
			if x.text != "" {
				l = append(l, "raised "+x.text)
			}
		case spent:
			l = append(l, "E10")
		default:
			panic(x)
		}
		if m.out != "" {
			l = append(l, "out "+m.out)
		}
		for _, x := range m.made {
			l = append(l, map[bool]string{false: "move ", true: "turn "}[x.Turn]+strconv.FormatInt(x.N, 10))
		}
		s = strings.Join(append(l, "fuel "+strconv.Itoa(m.fuel)), "; ")
	}()
	v = m.exec(int64(fun), nil, int64(0))
	l = append(l, "E0", spelt(v, 9))
	return
}
