package machine

import (
	"slices"

	"battledore/api"
	"battledore/code"
	"battledore/heap"
)

// maxStack is how many words the stacks of the functions that run may take, and three for each try that is open. No cell comes so far: a function that waits for its call has fewer values than its cell has bytes.
const maxStack = 1 << 26

// Result is what a run comes to: what it answers; else an error, the exception; what was printed, the moves; what is left of the fuel.
type Result struct {
	E     api.Errno
	W     heap.Word
	Raise string
	Out   string
	Moves []api.Move
	Fuel  int
}

// frame is a function that runs, or waits for what it has called.
type frame struct {
	fun  int64
	self heap.Word // its KFun; a number, if it is what Run calls
	base int       // where its own stack begins
	at   int64     // the next instruction
}

// try is an open try: of which frame, where an exception goes on, how deep the stack was.
type try struct {
	frames int
	at     int64
	depth  int
}

// running is an execution. The functions' stacks stand in one, each behind that of its caller.
type running struct {
	*Machine
	frames []frame
	stack  []heap.Word
	tries  []try
	fuel   int
	moves  int // how many there may be
	room   int // how many bytes may still be printed
	out    []byte
	done   []api.Move
	raised string
	result heap.Word
}

// Run: a function is called with nothing; so many steps, moves, and bytes that are printed. With an error the machine is what it was before.
func (m *Machine) Run(fun, fuel, moves, room int) Result {
	if m == nil {
		return Result{E: api.ErrNone}
	}
	if fun < 0 || fun >= len(m.funs) || m.funs[fun].Caps != 0 || fuel < 0 || fuel > api.MaxFuel || moves < 0 || room < 0 {
		return Result{E: api.ErrArg}
	}
	before, globs := m.heap.Copy(), slices.Clone(m.globs)
	r := &running{Machine: m, fuel: fuel, moves: moves, room: room}
	e := r.enter(int64(fun), heap.Num(0), heap.Num(0))
	for e == api.OK && len(r.frames) > 0 {
		e = r.do(r.next())
	}
	if e != api.OK {
		*m.heap, m.globs = *before, globs // the heap itself stays the same one: the caller may have it
	}
	return Result{e, r.result, r.raised, string(r.out), r.done, r.fuel}
}

// top: the frame that runs.
func (r *running) top() *frame {
	return &r.frames[len(r.frames)-1]
}

// next: the instruction that is to be executed.
func (r *running) next() code.Ins {
	f := r.top()
	f.at++
	return r.funs[f.fun].Code[f.at-1]
}

// enter: a function begins to run.
func (r *running) enter(fun int64, self, v heap.Word) api.Errno {
	if len(r.stack)+3*len(r.tries) > maxStack {
		return api.ErrMem
	}
	r.frames = append(r.frames, frame{fun: fun, self: self, base: len(r.stack)})
	r.push(v)
	return api.OK
}

// leave: a function answers the top of its stack.
func (r *running) leave() {
	v := r.pop()
	r.stack = r.stack[:r.top().base]
	r.frames = r.frames[:len(r.frames)-1]
	if len(r.frames) == 0 {
		r.result = v
		return
	}
	r.push(v)
}

func (r *running) push(w heap.Word) {
	r.stack = append(r.stack, w)
}

func (r *running) pop() heap.Word {
	i := len(r.stack) - 1
	w := r.stack[i]
	r.stack = r.stack[:i]
	return w
}

// answer leaves a number.
func (r *running) answer(n int64) api.Errno {
	r.push(heap.Num(n))
	return api.OK
}

// truth leaves yes or no.
func (r *running) truth(yes bool) api.Errno {
	if yes {
		return r.answer(1)
	}
	return r.answer(0)
}

// step: is a step left? It is taken.
func (r *running) step() bool {
	if r.fuel == 0 {
		return false
	}
	r.fuel--
	return true
}

// object leaves a new object, whose parts are the first ones, and those that are taken from the stack.
func (r *running) object(kind byte, taken int, first ...heap.Word) api.Errno {
	depth := len(r.stack) - taken
	parts := append(first, r.stack[depth:]...)
	r.stack = r.stack[:depth]
	w, e := r.heap.Put(kind, parts, r.roots(heap.Need(kind, len(parts))))
	if e == api.OK {
		r.push(w)
	}
	return e
}

// text leaves a new text.
func (r *running) text(s string) api.Errno {
	if len(s) > api.MaxString {
		return r.raise("long")
	}
	w, e := r.heap.PutText(s, r.roots(heap.Need(heap.KText, len(s))))
	if e == api.OK {
		r.push(w)
	}
	return e
}

// roots: what a collection has to keep, if there is no room for so many words; else none are asked for.
func (r *running) roots(need int) []*heap.Word {
	if need <= r.heap.Quota()-r.heap.Used() {
		return nil
	}
	l := make([]*heap.Word, 0, len(r.stack)+len(r.frames)+len(r.globs))
	l = pointers(l, r.stack)
	for i := range r.frames {
		l = append(l, &r.frames[i].self)
	}
	return pointers(l, r.globs)
}

// raise: an exception. (Its text becomes one of the heap only where a try is open, and there it has to have a text's length.)
func (r *running) raise(s string) api.Errno {
	if !r.land() {
		r.raised = s
		return api.ErrRaise
	}
	if len(s) > api.MaxString {
		s = "long"
	}
	return r.text(s)
}

// land: on where the last open try leads, with what was on the stack there; false: none is open.
func (r *running) land() bool {
	i := len(r.tries) - 1
	if i < 0 {
		return false
	}
	t := r.tries[i]
	r.tries, r.frames, r.stack = r.tries[:i], r.frames[:t.frames], r.stack[:t.depth]
	r.top().at = t.at
	return true
}
