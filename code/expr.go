package code

import "battledore/api"

// signs are the operators' texts, by their numbers.
var signs = [...]string{Add: "+", Sub: "-", Mul: "*", Div: "/", Mod: "mod", Eq: "=", Ne: "<>", Lt: "<", Le: "<=", Cat: "^", Set: ":="}

// expr: an expression's value.
func (f *frame) expr(x api.Expr) {
	f.nested(func() { f.rule(x) })
}

// isWhole: has an expression the kids that its kind asks for?
func isWhole(x api.Expr) bool {
	n := len(x.Kids)
	switch x.Kind {
	case api.ECon:
		return n <= 1
	case api.EFun, api.ENeg, api.EGet:
		return n == 1
	case api.ECons, api.EApp, api.ELet, api.ETry, api.ESeq, api.EOp:
		return n == 2
	case api.EIf:
		return n == 3
	case api.EMatch:
		return n == 1+len(x.Pats)
	case api.ETuple:
		return n >= 2 && n <= maxTuple
	}
	return true
}

// rule: an expression's value, by its kind.
func (f *frame) rule(x api.Expr) {
	if !isWhole(x) {
		f.lacks = true
		return
	}
	k := x.Kids
	switch x.Kind {
	case api.EInt, api.EBool:
		f.emit(Ins{Op: Int, N: x.N})
	case api.EUnit, api.ENil:
		f.emit(Ins{Op: Int})
	case api.EText:
		f.emit(Ins{Op: Text, S: x.Text})
	case api.EVar:
		f.name(x.Text)
	case api.ECon:
		f.made(x)
	case api.ETuple, api.ECons:
		f.each(k, Ins{Op: Tuple, N: int64(len(k))})
	case api.EFun:
		f.fun("", x)
	case api.EApp:
		f.each(k, Ins{Op: Call})
	case api.ELet:
		f.let(x)
	case api.EIf:
		f.choice(k)
	case api.EMatch:
		f.match(x)
	case api.ETry:
		f.try(x)
	case api.ESeq:
		f.each(k[:1], Ins{Op: Pop})
		f.expr(k[1])
	case api.EOp:
		f.operation(x)
	case api.ENeg:
		f.each(k, Ins{Op: Neg})
	case api.EGet:
		f.each(k, Ins{Op: Get})
	default:
		f.lacks = true
	}
}

// each: the values of expressions, from left to right, and what an instruction makes of them.
func (f *frame) each(l []api.Expr, x Ins) {
	for _, k := range l {
		f.expr(k)
	}
	f.emit(x)
}

// made: what a constructor makes.
func (f *frame) made(x api.Expr) {
	i := f.con(x.Text)
	if len(x.Kids) == 0 {
		f.emit(Ins{Op: Int, N: int64(i)})
	} else {
		f.each(x.Kids, Ins{Op: Con, N: Number(i)})
	}
}

func (f *frame) operation(x api.Expr) {
	switch x.Text {
	case "&&":
		f.choice([]api.Expr{x.Kids[0], x.Kids[1], {Kind: api.EBool, N: 0}})
		return
	case "||":
		f.choice([]api.Expr{x.Kids[0], {Kind: api.EBool, N: 1}, x.Kids[1]})
		return
	}
	for i, s := range signs {
		if s == x.Text {
			f.each(x.Kids, Ins{Op: Op, N: int64(i)})
			return
		}
	}
	f.lacks = true
}

// choice: of three, the second one, if the first one is true, or the third one.
func (f *frame) choice(k []api.Expr) {
	f.expr(k[0])
	no := f.jump(False)
	f.expr(k[1])
	end := f.jump(Jump)
	f.depth--
	f.land(no)
	f.expr(k[2])
	f.land(end)
}

func (f *frame) let(x api.Expr) {
	self := ""
	if x.Rec {
		self = x.Text
	}
	f.named(self, x.Kids[0])
	f.within(x.Text, x.Kids[1])
}

// within: an expression's value instead of the top of the stack, by which a name is meant in it.
func (f *frame) within(name string, x api.Expr) {
	n := len(f.own)
	f.own = append(f.own, local(name, Ins{Op: Local, N: f.depth - 1}))
	f.expr(x)
	f.own = f.own[:n]
	f.emit(Ins{Op: Slide, N: 1})
}

func (f *frame) try(x api.Expr) {
	raised := f.jump(Try)
	f.expr(x.Kids[0])
	f.emit(Ins{Op: Untry})
	end := f.jump(Jump)
	f.land(raised) // the exception's text is there, where the value would be
	f.within(x.Text, x.Kids[1])
	f.land(end)
}
