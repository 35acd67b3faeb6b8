package image

import (
	"battledore/api"
	"battledore/code"
	"battledore/heap"
	"battledore/machine"
	"battledore/octet"
)

func writeMachine(w *octet.Writer, m *machine.Machine) {
	w.Uint(uint64(m.Heap().Quota()))
	writeWords(w, m.Heap().Words())
	code.Encode(w, m.Funs())
	writeWords(w, m.Globals())
}

// readMachine: the next machine; at a fault none.
func readMachine(r *octet.Reader) *machine.Machine {
	quota := r.Upto(api.MaxWords)
	words := readWords(r)
	funs := code.Decode(r)
	globs := readWords(r)
	h, e := heap.Load(quota, words)
	if r.Bad() || e != api.OK {
		r.Fail()
		return nil
	}
	m, e := machine.Restore(h, funs, globs)
	if e != api.OK {
		r.Fail()
	}
	return m
}

func writeWords(w *octet.Writer, l []heap.Word) {
	w.Uint(uint64(len(l)))
	for _, x := range l {
		w.Uint(uint64(x))
	}
}

func readWords(r *octet.Reader) []heap.Word {
	return some(r, func() heap.Word { return heap.Word(r.Uint()) })
}
