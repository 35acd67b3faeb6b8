package cell

import (
	"strconv"

	"battledore/api"
	"battledore/code"
	"battledore/heap"
	"battledore/image"
	"battledore/infer"
	"battledore/print"
)

// unknown stands for a value that nobody can tell.
const unknown = "?"

// shape is a type whose variables 1, 2 .. stand for shapes. What is in a constructor may have a type that doubles with each constructor farther in, so types aren't expanded.
type shape struct {
	t  api.Type
	of []shape
}

// within: the shape of a type where variables stand for what they do in s; a variable that stands for nothing has no name.
func (s shape) within(t api.Type) shape {
	switch {
	case t.Name != "":
		return shape{t, s.of}
	case t.Var >= 1 && t.Var <= len(s.of):
		return s.of[t.Var-1]
	}
	return shape{}
}

// kids: the shapes of a type's kids.
func (s shape) kids() []shape {
	var l []shape
	for _, t := range s.t.Kids {
		l = append(l, s.within(t))
	}
	return l
}

// teller makes a text, and ends soon after it has become too long: a value may contain itself. Each part adds a byte ahead of its own parts.
type teller struct {
	cons []infer.Con
	heap *heap.Heap
	out  []byte
}

// Show: a value of a type as a text.
func Show(x image.World, w heap.Word, t api.Type) string {
	if x.M == nil {
		return ""
	}
	s := &teller{cons: x.Env.Cons, heap: x.M.Heap()}
	s.value(w, shape{}.within(t))
	if s.isFull() {
		return string(s.out[:api.MaxShow]) + "..."
	}
	return string(s.out)
}

func (s *teller) isFull() bool {
	return len(s.out) > api.MaxShow
}

func (s *teller) tell(text string) {
	s.out = append(s.out, text...)
}

// value tells a value by its type's name.
func (s *teller) value(w heap.Word, t shape) {
	if s.isFull() {
		return
	}
	switch t.t.Name {
	case "":
		s.tell(unknown)
	case "int":
		s.number(w)
	case "bool":
		s.truth(w)
	case "unit":
		s.tell("()")
	case "string":
		s.text(w)
	case "->":
		s.tell("<fun>")
	case "*":
		s.parts(w, heap.KTuple, "(", t.kids(), ")")
	case "ref":
		s.parts(w, heap.KRef, "{", t.kids(), "}")
	case "list":
		s.list(w, t.kids())
	default:
		s.con(w, t)
	}
}

func (s *teller) number(w heap.Word) {
	if w.IsNum() {
		s.tell(strconv.FormatInt(w.N(), 10))
	} else {
		s.tell(unknown)
	}
}

func (s *teller) truth(w heap.Word) {
	switch w {
	case heap.Num(0):
		s.tell("false")
	case heap.Num(1):
		s.tell("true")
	default:
		s.tell(unknown)
	}
}

func (s *teller) text(w heap.Word) {
	if s.heap.Kind(w) == heap.KText {
		s.tell(print.Quote(s.heap.Text(w)))
	} else {
		s.tell(unknown)
	}
}

// parts tells an object's parts between two brackets.
func (s *teller) parts(w heap.Word, kind byte, open string, l []shape, shut string) {
	if !s.has(w, kind, len(l)) {
		s.tell(unknown)
		return
	}
	s.tell(open)
	for i, t := range l {
		if i > 0 {
			s.tell(", ")
		}
		s.part(w, i, t)
	}
	s.tell(shut)
}

// has: is a word an object of a kind, with so many parts?
func (s *teller) has(w heap.Word, kind byte, n int) bool {
	return s.heap.Kind(w) == kind && s.heap.Len(w) == n
}

func (s *teller) part(w heap.Word, i int, t shape) {
	p, _ := s.heap.Part(w, i)
	s.value(p, t)
}

func (s *teller) list(w heap.Word, of []shape) {
	if len(of) != 1 {
		s.tell(unknown)
		return
	}
	s.tell("[")
	between := ""
	for !s.isFull() && s.has(w, heap.KTuple, 2) {
		s.tell(between)
		s.part(w, 0, of[0])
		w, _ = s.heap.Part(w, 1)
		between = "; "
	}
	s.tell("]")
}

// con tells a constructor of a type that was declared.
func (s *teller) con(w heap.Word, t shape) {
	n, has := w, false
	if s.has(w, heap.KCon, 2) {
		n, _ = s.heap.Part(w, 0)
		has = true
	}
	for i, k := range s.cons {
		if k.Type != t.t.Name || k.Has != has || n != number(i, has) {
			continue
		}
		s.tell(k.Name)
		if has {
			s.tell(" (")
			s.part(w, 1, shape{of: t.kids()}.within(k.T))
			s.tell(")")
		}
		return
	}
	s.tell(unknown)
}

// number: by which number a value of the constructor of that index is known.
func number(index int, has bool) heap.Word {
	if has {
		return heap.Num(code.Number(index))
	}
	return heap.Num(int64(index))
}
