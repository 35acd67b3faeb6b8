package machine

import (
	"battledore/api"
	"battledore/code"
	"battledore/heap"
)

// operate leaves what an operator makes of two values.
func (r *running) operate(sign int64, a, b heap.Word) api.Errno {
	switch sign {
	case code.Eq, code.Ne:
		return r.equal(sign, a, b)
	case code.Cat:
		if r.heap.Kind(a) != heap.KText || r.heap.Kind(b) != heap.KText {
			return api.ErrForm
		}
		return r.text(r.heap.Text(a) + r.heap.Text(b))
	case code.Set:
		if r.heap.Kind(a) != heap.KRef || r.heap.SetPart(a, 0, b) != api.OK {
			return api.ErrForm
		}
		return r.answer(0)
	}
	if !a.IsNum() || !b.IsNum() {
		return api.ErrForm
	}
	return r.calculate(sign, a.N(), b.N())
}

// calculate leaves what an operator makes of two numbers.
func (r *running) calculate(sign, a, b int64) api.Errno {
	switch sign {
	case code.Add:
		return r.answer(a + b)
	case code.Sub:
		return r.answer(a - b)
	case code.Mul:
		return r.answer(a * b)
	case code.Lt:
		return r.truth(a < b)
	case code.Le:
		return r.truth(a <= b)
	}
	if b == 0 {
		return r.raise("div")
	}
	if sign == code.Div {
		return r.answer(a / b)
	}
	return r.answer(a % b)
}

// verdict is what the examination of two values comes to.
type verdict int

const (
	alike verdict = iota
	different
	open      // they are alike, if their parts are
	functions // that nobody can tell
	spent     // no step is left
)

// equal leaves whether two values are equal, or not.
func (r *running) equal(sign int64, a, b heap.Word) api.Errno {
	switch v := r.compare(a, b); v {
	case spent:
		return api.ErrFuel
	case functions:
		return r.raise("equal")
	default:
		return r.truth((v == alike) == (sign == code.Eq))
	}
}

// pair is two objects, whose parts are alike up to a next one.
type pair struct {
	a, b heap.Word
	next int
}

// compare examines two values, then their parts, from the first ones on, as long as they are alike. Objects may be within one another more deeply than calls may be; those that are open stand in a list.
func (r *running) compare(a, b heap.Word) verdict {
	var todo []pair
	for {
		switch v := r.examine(a, b); v {
		case alike:
		case open:
			todo = append(todo, pair{a: a, b: b})
		default:
			return v
		}
		for len(todo) > 0 && todo[len(todo)-1].next == r.heap.Len(todo[len(todo)-1].a) {
			todo = todo[:len(todo)-1]
		}
		if len(todo) == 0 {
			return alike
		}
		p := &todo[len(todo)-1]
		a, _ = r.heap.Part(p.a, p.next)
		b, _ = r.heap.Part(p.b, p.next)
		p.next++
	}
}

// examine takes a step, and compares two values as far as that needs none of their parts.
func (r *running) examine(a, b heap.Word) verdict {
	if !r.step() {
		return spent
	}
	k := r.heap.Kind(a)
	switch {
	case a.IsNum() || b.IsNum():
		return same(a == b)
	case isFunction(k) && isFunction(r.heap.Kind(b)):
		return functions
	case k != r.heap.Kind(b) || r.heap.Len(a) != r.heap.Len(b):
		return different
	case k == heap.KText:
		return same(r.heap.Text(a) == r.heap.Text(b))
	case k == heap.KTuple || k == heap.KCon:
		return open
	}
	return same(a == b)
}

func same(yes bool) verdict {
	if yes {
		return alike
	}
	return different
}

func isFunction(kind byte) bool {
	return kind == heap.KFun || kind == heap.KPrim
}
