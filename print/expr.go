package print

import (
	"strconv"

	"battledore/api"
)

func pat(p api.Pat) part {
	return part{parts: func() []part { return patParts(p) }}
}

func patParts(p api.Pat) []part {
	switch p.Kind {
	case api.PAny:
		return plain("_")
	case api.PVar:
		return plain(p.Text)
	case api.PInt:
		return plain(number(p.N))
	case api.PText:
		return plain(Quote(p.Text))
	case api.PBool:
		return plain(truth(p.N))
	case api.PUnit:
		return plain("()")
	case api.PTuple:
		return enclosed(joined(p.Kids, ", ", pat))
	case api.PNil:
		return plain("[]")
	case api.PCons:
		return laid(p.Kids, pat, "(", " :: ", ")")
	case api.PCon:
		if len(p.Kids) == 0 {
			return plain(p.Text)
		}
		return laid(p.Kids, pat, "("+p.Text+" ", ")")
	}
	return nil
}

func expr(x api.Expr) part {
	return part{parts: func() []part { return exprParts(x) }}
}

func exprParts(x api.Expr) []part {
	switch x.Kind {
	case api.EInt:
		return plain(number(x.N))
	case api.EText:
		return plain(Quote(x.Text))
	case api.EBool:
		return plain(truth(x.N))
	case api.EUnit:
		return plain("()")
	case api.EVar:
		return plain(x.Text)
	case api.ECon:
		if len(x.Kids) == 0 {
			return plain(x.Text)
		}
		return laid(x.Kids, expr, "("+x.Text+" ", ")")
	case api.ETuple:
		return enclosed(joined(x.Kids, ", ", expr))
	case api.ENil:
		return plain("[]")
	case api.ECons:
		return laid(x.Kids, expr, "(", " :: ", ")")
	case api.EFun:
		return laid(x.Kids, expr, "(fun "+x.Text+" -> ", ")")
	case api.EApp:
		return callParts(x)
	case api.ELet:
		return laid(x.Kids, expr, "("+let(x.Text, x.Rec), " in ", ")")
	case api.EIf:
		return laid(x.Kids, expr, "(if ", " then ", " else ", ")")
	case api.EMatch:
		return matchParts(x)
	case api.ETry:
		return laid(x.Kids, expr, "(try ", " with "+x.Text+" -> ", ")")
	case api.ESeq:
		return laid(x.Kids, expr, "(", "; ", ")")
	case api.EOp:
		return laid(x.Kids, expr, "(", " "+x.Text+" ", ")")
	case api.ENeg:
		return laid(x.Kids, expr, "(- ", ")")
	case api.EGet:
		return laid(x.Kids, expr, "!", "")
	}
	return nil
}

// callParts: a constructor without an argument is enclosed, because it would take what it is called with as its argument.
func callParts(x api.Expr) []part {
	if len(x.Kids) > 0 && x.Kids[0].Kind == api.ECon && len(x.Kids[0].Kids) == 0 {
		return laid(x.Kids, expr, "((", ") ", ")")
	}
	return laid(x.Kids, expr, "(", " ", ")")
}

func matchParts(x api.Expr) []part {
	row := laid(x.Kids, expr, "(match ", " with")
	for i, p := range x.Pats {
		if i+1 < len(x.Kids) {
			row = append(row, part{text: " | "}, pat(p), part{text: " -> "}, expr(x.Kids[i+1]))
		}
	}
	return append(row, part{text: ")"})
}

// let: a binding as far as its = .
func let(name string, rec bool) string {
	if rec {
		return "let rec " + name + " = "
	}
	return "let " + name + " = "
}

func number(n int64) string {
	return strconv.FormatInt(n, 10)
}

func truth(n int64) string {
	return strconv.FormatBool(n != 0)
}
