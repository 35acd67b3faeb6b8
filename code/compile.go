package code

import (
	"slices"

	"battledore/api"
)

// compiler is what all functions of an expression share.
type compiler struct {
	names Names
	first int
	funs  []Fun
	nest  int
	lacks bool // something that is named doesn't exist
}

// Compile: the functions of an expression, numbered from first on; the last one is the expression itself, without an argument that it looks at. self: its own name, if it knows itself.
func Compile(n Names, self string, x api.Expr, first int) ([]Fun, api.Errno) {
	c := &compiler{names: n, first: first}
	f := &frame{compiler: c, depth: 1}
	f.named(self, x)
	f.emit(Ins{Op: Ret})
	c.add(0, f.code)
	if c.lacks {
		return nil, api.ErrNone
	}
	return c.funs, api.OK
}

// add: the number of one more function.
func (c *compiler) add(caps int, code []Ins) int64 {
	c.funs = append(c.funs, Fun{caps, code})
	return int64(c.first + len(c.funs) - 1)
}

// nested does something one level deeper. No cell leads deeper than it has bytes; beyond that there is nothing.
func (c *compiler) nested(do func()) {
	if c.nest >= api.MaxSource {
		c.lacks = true
		return
	}
	c.nest++
	do()
	c.nest--
}

// con: the index of a constructor.
func (c *compiler) con(name string) int {
	i := slices.Index(c.names.Cons, name)
	if i < 0 {
		c.lacks = true
		return 0
	}
	return i
}

// emit appends an instruction; depth is how deep the stack is behind it.
func (f *frame) emit(x Ins) {
	taken, left := effect(x)
	f.code = append(f.code, x)
	f.depth += left - taken
}

// jump appends an instruction that leads to a place behind it, which land determines.
func (f *frame) jump(op byte) int {
	f.emit(Ins{Op: op})
	return len(f.code) - 1
}

func (f *frame) land(jumps ...int) {
	for _, i := range jumps {
		f.code[i].N = int64(len(f.code))
	}
}
