package code

// state is how an instruction is reached: how many values are on the stack (none: it isn't reached), how many tries are open.
type state struct {
	depth int64
	tries int64
}

// walk goes through the instructions of a function.
type walk struct {
	all   []Fun
	globs int
	caps  int
	code  []Ins
	at    []state
}

// Check: are these functions valid, with so many globals?
func Check(all []Fun, globs int) bool {
	for _, f := range all {
		w := walk{all: all, globs: globs, caps: f.Caps, code: f.Code, at: make([]state, len(f.Code))}
		if f.Caps < 0 || !w.isValid() {
			return false
		}
	}
	return true
}

// isValid: once through is enough, because all jumps lead on to later instructions.
func (w *walk) isValid() bool {
	if !w.reach(0, state{depth: 1}) {
		return false
	}
	for i, x := range w.code {
		if s := w.at[i]; s.depth > 0 && !(w.isAllowed(x, s) && w.goOn(int64(i), x, s)) {
			return false
		}
	}
	return true
}

// reach: can one come to an instruction like that?
func (w *walk) reach(i int64, s state) bool {
	if i >= int64(len(w.code)) {
		return false
	}
	if w.at[i].depth == 0 {
		w.at[i] = s
	}
	return w.at[i] == s
}

// goOn: can one come to what follows an instruction?
func (w *walk) goOn(i int64, x Ins, s state) bool {
	taken, left := effect(x)
	s.depth += left - taken
	switch x.Op {
	case Ret, Fail:
		return true
	case Jump:
		return x.N > i && w.reach(x.N, s)
	case False:
		return x.N > i && w.reach(x.N, s) && w.reach(i+1, s)
	case Try:
		return x.N > i && w.reach(x.N, state{s.depth + 1, s.tries}) && w.reach(i+1, state{s.depth, s.tries + 1})
	case Untry:
		s.tries--
	}
	return w.reach(i+1, s)
}

// isAllowed: is an instruction allowed where it is reached like that?
func (w *walk) isAllowed(x Ins, s state) bool {
	if x.Op > Fail || !w.names(x, s) {
		return false
	}
	taken, _ := effect(x)
	switch x.Op {
	case Ret:
		return s.depth == 2 && s.tries == 0
	case Untry:
		return s.tries > 0
	}
	return s.depth > taken
}

// names: is what an instruction names there? (Asked ahead of how many it takes: an N that is bounded can't run over.)
func (w *walk) names(x Ins, s state) bool {
	switch x.Op {
	case Local:
		return x.N >= 0 && x.N < s.depth
	case Cap:
		return x.N >= 0 && x.N < int64(w.caps)
	case Glob:
		return x.N >= 0 && x.N < int64(w.globs)
	case Clos:
		return x.N >= 0 && x.N < int64(len(w.all)) && x.A >= 0 && x.A == w.all[x.N].Caps
	case Tuple:
		return x.N >= 2 && x.N <= maxTuple
	case Slide:
		return x.N >= 1 && x.N < s.depth
	case Op:
		return x.N >= Add && x.N <= Set
	case Con, Field, IsCon:
		return x.N >= 0 && x.N <= maxNumber
	}
	return true
}
