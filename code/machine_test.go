package code_test

import (
	"slices"

	"battledore/code"
)

// closure is a function, and what it captures.
type closure struct {
	n    int64
	caps []value
}

// machine executes instructions, which Check has found valid.
type machine struct {
	*effects
	funs  []code.Fun
	globs []value
}

// open is a try: where it leads, how deep the stack was.
type open struct {
	at    int64
	depth int
}

func (m *machine) apply(f, v value) value {
	if p, ok := f.(prim); ok {
		return m.call(p, v)
	}
	return m.run(f.(*closure), v)
}

// run: what a function answers.
func (m *machine) run(self *closure, v value) value {
	r := &running{machine: m, self: self, stack: []value{v}}
	for r.on() {
	}
	return r.stack[1]
}

// running is a function that runs.
type running struct {
	*machine
	self  *closure
	stack []value
	tries []open
	at    int64
}

func (r *running) push(l ...value) { r.stack = append(r.stack, l...) }

func (r *running) take(n int64) []value {
	i := len(r.stack) - int(n)
	l := slices.Clone(r.stack[i:])
	r.stack = r.stack[:i]
	return l
}

func (r *running) pop() value { return r.take(1)[0] }

// on executes as far as an exception, or the end: then it answers no.
func (r *running) on() (goes bool) {
	defer func() {
		thrown := recover()
		text, ok := thrown.(raised)
		if thrown == nil {
			return
		}
		if !ok || len(r.tries) == 0 {
			panic(thrown)
		}
		last := r.tries[len(r.tries)-1]
		r.tries = r.tries[:len(r.tries)-1]
		r.stack = append(r.stack[:last.depth], r.text(string(text)))
		r.at = last.at
		goes = true
	}()
	all := r.funs[r.self.n].Code
	for all[r.at].Op != code.Ret {
		x := all[r.at]
		r.at++
		r.do(x)
	}
	return false
}

func (r *running) do(x code.Ins) {
	switch x.Op {
	case code.Int:
		r.push(x.N)
	case code.Text:
		r.push(r.text(x.S))
	case code.Local:
		r.push(r.stack[x.N])
	case code.Cap:
		r.push(r.self.caps[x.N])
	case code.Self:
		r.push(r.self)
	case code.Glob:
		r.push(r.globs[x.N])
	case code.Clos:
		r.words += 2 + x.A
		r.push(&closure{x.N, r.take(int64(x.A))})
	case code.Call:
		l := r.take(2)
		r.step()
		r.push(r.apply(l[0], l[1]))
	case code.Tuple:
		r.words += 1 + int(x.N)
		r.push(&tuple{r.take(x.N)})
	case code.Con:
		r.words += 3
		r.push(&con{x.N, r.pop()})
	case code.Field:
		switch v := r.pop().(type) {
		case *tuple:
			r.push(v.parts[x.N])
		case *con:
			r.push([]value{v.v}[x.N])
		}
	case code.IsInt, code.IsText, code.IsPtr, code.IsCon:
		r.push(truth(is(x, r.pop())))
	case code.Op:
		l := r.take(2)
		r.push(r.operator(x.N, l[0], l[1]))
	case code.Neg:
		r.push(short(-r.pop().(int64)))
	case code.Ref:
		r.words += 2
		r.push(&cell{r.pop()})
	case code.Get:
		r.push(r.pop().(*cell).v)
	default:
		r.lead(x)
	}
}

// is: what IsInt, IsText, IsPtr and IsCon ask for.
func is(x code.Ins, v value) bool {
	_, isNumber := v.(int64)
	switch x.Op {
	case code.IsInt:
		return v == x.N
	case code.IsText:
		return v == x.S
	case code.IsPtr:
		return !isNumber
	}
	k, ok := v.(*con)
	return ok && k.n == x.N
}

// lead does what leads on, or leaves nothing.
func (r *running) lead(x code.Ins) {
	switch x.Op {
	case code.Jump:
		r.at = x.N
	case code.False:
		if r.pop() == int64(0) {
			r.at = x.N
		}
	case code.Slide:
		v := r.pop()
		r.take(x.N)
		r.push(v)
	case code.Pop:
		r.pop()
	case code.Try:
		r.tries = append(r.tries, open{x.N, len(r.stack)})
	case code.Untry:
		r.tries = r.tries[:len(r.tries)-1]
	case code.Fail:
		panic(raised(x.S))
	default:
		panic("no instruction")
	}
}
