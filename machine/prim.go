package machine

import (
	"strconv"

	"battledore/api"
	"battledore/heap"
)

// The predefined functions, by their numbers.
const (
	primFail int64 = iota
	primItoa
	primMove
	primNot
	primPrint
	primRef
	primSize
	primTurn
)

// predefined calls a predefined function, if the value is of the kind that it asks for.
func (r *running) predefined(n int64, v heap.Word) api.Errno {
	isText := r.heap.Kind(v) == heap.KText
	switch {
	case n == primRef:
		r.push(v)
		return r.object(heap.KRef, 1)
	case n == primFail && isText:
		return r.fail(v)
	case n == primPrint && isText:
		return r.print(r.heap.Text(v))
	case n == primSize && isText:
		return r.answer(int64(r.heap.Len(v)))
	case n == primItoa && v.IsNum():
		return r.text(strconv.FormatInt(v.N(), 10))
	case n == primNot && v.IsNum():
		return r.answer(1 - v.N())
	case (n == primMove || n == primTurn) && v.IsNum():
		return r.move(api.Move{Turn: n == primTurn, N: v.N()})
	}
	return api.ErrForm
}

// fail: an exception whose text is one of the heap already; a second one would take room without need.
func (r *running) fail(text heap.Word) api.Errno {
	if !r.land() {
		r.raised = r.heap.Text(text)
		return api.ErrRaise
	}
	r.push(text)
	return api.OK
}

// print: as much of a text as there is room for is printed.
func (r *running) print(s string) api.Errno {
	s = s[:min(len(s), r.room)]
	r.out = append(r.out, s...)
	r.room -= len(s)
	return r.answer(0)
}

func (r *running) move(x api.Move) api.Errno {
	if len(r.done) >= r.moves {
		return r.raise("moves")
	}
	r.done = append(r.done, x)
	return r.answer(0)
}
