package machine

import (
	"battledore/api"
	"battledore/code"
	"battledore/heap"
)

// do executes an instruction. What Add and Restore let in takes no more from a stack than there is, and leads nowhere outside; only the kinds of the values are asked here.
func (r *running) do(x code.Ins) api.Errno {
	switch x.Op {
	case code.Int:
		return r.answer(x.N)
	case code.Text:
		return r.text(x.S)
	case code.Local:
		r.push(r.stack[r.top().base+int(x.N)])
	case code.Cap:
		return r.part(r.top().self, x.N+1)
	case code.Self:
		return r.self()
	case code.Glob:
		r.push(r.globs[x.N])
	case code.Clos:
		return r.object(heap.KFun, x.A, heap.Num(x.N))
	case code.Call:
		return r.call()
	case code.Tuple:
		return r.object(heap.KTuple, int(x.N))
	case code.Con:
		return r.object(heap.KCon, 1, heap.Num(x.N))
	case code.Ref:
		return r.object(heap.KRef, 1)
	case code.Op:
		b := r.pop()
		return r.operate(x.N, r.pop(), b)
	case code.Fail:
		return r.raise(x.S)
	case code.Field, code.Get, code.Neg:
		return r.get(x, r.pop())
	case code.IsInt, code.IsText, code.IsPtr, code.IsCon:
		return r.truth(r.is(x, r.pop()))
	default:
		r.lead(x)
	}
	return api.OK
}

// lead executes what leads on, or leaves nothing new.
func (r *running) lead(x code.Ins) {
	switch x.Op {
	case code.Ret:
		r.leave()
	case code.Jump:
		r.top().at = x.N
	case code.False:
		if r.pop() == heap.Num(0) {
			r.top().at = x.N
		}
	case code.Slide:
		w := r.pop()
		r.stack = r.stack[:len(r.stack)-int(x.N)]
		r.push(w)
	case code.Pop:
		r.pop()
	case code.Try:
		r.tries = append(r.tries, try{len(r.frames), x.N, len(r.stack)})
	case code.Untry:
		r.tries = r.tries[:len(r.tries)-1]
	}
}

// self leaves the function that runs. What Run calls is no object yet.
func (r *running) self() api.Errno {
	f := r.top()
	if f.self.IsNum() {
		return r.object(heap.KFun, 0, heap.Num(f.fun))
	}
	r.push(f.self)
	return api.OK
}

// part leaves a part of an object.
func (r *running) part(w heap.Word, i int64) api.Errno {
	v, e := r.heap.Part(w, int(i))
	if e != api.OK {
		return api.ErrForm
	}
	r.push(v)
	return api.OK
}

// get leaves what one value has, or comes to.
func (r *running) get(x code.Ins, w heap.Word) api.Errno {
	kind := r.heap.Kind(w)
	switch {
	case x.Op == code.Field && kind == heap.KCon:
		return r.part(w, x.N+1)
	case x.Op == code.Field:
		return r.part(w, x.N)
	case x.Op == code.Get && kind == heap.KRef:
		return r.part(w, 0)
	case x.Op == code.Neg && w.IsNum():
		return r.answer(-w.N())
	}
	return api.ErrForm
}

// is: is a value what an instruction asks for?
func (r *running) is(x code.Ins, w heap.Word) bool {
	switch x.Op {
	case code.IsInt:
		return w == heap.Num(x.N)
	case code.IsText:
		return r.heap.Kind(w) == heap.KText && r.heap.Text(w) == x.S
	case code.IsPtr:
		return !w.IsNum()
	}
	n, e := r.heap.Part(w, 0)
	return e == api.OK && r.heap.Kind(w) == heap.KCon && n == heap.Num(x.N)
}

// call: a function is called with the top of the stack.
func (r *running) call() api.Errno {
	v := r.pop()
	f := r.pop()
	if !r.step() {
		return api.ErrFuel
	}
	n, e := r.heap.Part(f, 0)
	if e != api.OK || !n.IsNum() {
		return api.ErrForm
	}
	switch r.heap.Kind(f) {
	case heap.KFun:
		if n.N() < 0 || n.N() >= int64(len(r.funs)) || r.heap.Len(f)-1 != r.funs[n.N()].Caps {
			return api.ErrForm
		}
		return r.enter(n.N(), f, v)
	case heap.KPrim:
		return r.predefined(n.N(), v)
	}
	return api.ErrForm
}
