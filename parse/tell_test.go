package parse_test

import (
	"strconv"
	"strings"
	"testing"

	"battledore/api"
	"battledore/parse"
)

// kinds of what is told as a list of its parts.
var (
	exprKinds = map[byte]string{api.ECon: "con", api.ETuple: "tuple", api.ECons: "cons", api.EFun: "fun", api.EApp: "app", api.ELet: "let", api.EIf: "if", api.ETry: "try", api.ESeq: "seq", api.EOp: "op", api.ENeg: "neg", api.EGet: "get"}
	patKinds  = map[byte]string{api.PTuple: "tuple", api.PCons: "cons", api.PCon: "con"}
)

func list(l ...string) string {
	var out []string
	for _, s := range l {
		if s != "" {
			out = append(out, s)
		}
	}
	return "{" + strings.Join(out, " ") + "}"
}

// tell writes an expression down, with all of its fields, but not as the language does.
func tell(x api.Expr) string {
	switch x.Kind {
	case api.EInt:
		return strconv.FormatInt(x.N, 10)
	case api.EText:
		return strconv.Quote(x.Text)
	case api.EBool:
		return "bool" + strconv.FormatInt(x.N, 10)
	case api.EUnit:
		return "unit"
	case api.EVar:
		return x.Text
	case api.ENil:
		return "nil"
	case api.EMatch:
		l := []string{"match", tell(x.Kids[0])}
		for i, p := range x.Pats {
			l = append(l, list(tellPat(p), tell(x.Kids[i+1])))
		}
		return list(l...)
	}
	l := []string{exprKinds[x.Kind], x.Text}
	if x.Rec {
		l[0] += "rec"
	}
	for _, k := range x.Kids {
		l = append(l, tell(k))
	}
	return list(l...)
}

func tellPat(p api.Pat) string {
	switch p.Kind {
	case api.PAny:
		return "any"
	case api.PVar:
		return p.Text
	case api.PInt:
		return strconv.FormatInt(p.N, 10)
	case api.PText:
		return strconv.Quote(p.Text)
	case api.PBool:
		return "bool" + strconv.FormatInt(p.N, 10)
	case api.PUnit:
		return "unit"
	case api.PNil:
		return "nil"
	}
	l := []string{patKinds[p.Kind], p.Text}
	for _, k := range p.Kids {
		l = append(l, tellPat(k))
	}
	return list(l...)
}

func tellType(t api.Type) string {
	if t.Name == "" {
		return strconv.Itoa(t.Var)
	}
	if len(t.Kids) == 0 {
		return t.Name
	}
	l := []string{t.Name}
	for _, k := range t.Kids {
		l = append(l, tellType(k))
	}
	return list(l...)
}

func tellDecl(d api.Decl) string {
	switch d.Kind {
	case api.DExpr:
		return tell(d.E)
	case api.DLet:
		rec := "LET"
		if d.Rec {
			rec = "LETREC"
		}
		return list(rec, d.Text, tell(d.E))
	}
	l := []string{"TYPE", strconv.Itoa(d.N), d.Text}
	for _, c := range d.Ctors {
		if c.Has {
			l = append(l, list(c.Name, tellType(c.T)))
		} else {
			l = append(l, c.Name)
		}
	}
	return list(l...)
}

func tellCell(l []api.Decl) string {
	var out []string
	for _, d := range l {
		out = append(out, tellDecl(d))
	}
	return strings.Join(out, " ")
}

// is asks what a cell consists of.
func is(t *testing.T, s, want string) {
	t.Helper()
	l, at, e := parse.Cell(s)
	if e != api.OK || at != 0 || tellCell(l) != want {
		t.Errorf("Cell(%q) = %s, %d at %d, want %s", s, tellCell(l), e, at, want)
	}
	for _, d := range l {
		proper(t, s, d)
	}
}

// valid asks only that a cell has no fault.
func valid(t *testing.T, s string) {
	t.Helper()
	if _, at, e := parse.Cell(s); e != api.OK {
		t.Errorf("Cell(%q): %d at %d", s, e, at)
	}
}

// wrong asks which fault a cell has, and where.
func wrong(t *testing.T, s string, at int, e api.Errno) {
	t.Helper()
	l, gotAt, got := parse.Cell(s)
	if got != e || gotAt != at || len(l) != 0 {
		t.Errorf("Cell(%q) = %d declarations, %d at %d, want %d at %d", s, len(l), got, gotAt, e, at)
	}
}

// proper asks that a declaration has no more than its kind says.
func proper(t *testing.T, s string, d api.Decl) {
	t.Helper()
	ok := false
	switch d.Kind {
	case api.DExpr:
		ok = d.Text == "" && !d.Rec && d.N == 0 && d.Ctors == nil && properExpr(d.E)
	case api.DLet:
		ok = d.Text != "" && d.N == 0 && d.Ctors == nil && properExpr(d.E)
	case api.DType:
		ok = d.Text != "" && !d.Rec && d.E.Kind == 0 && d.E.Kids == nil && len(d.Ctors) > 0
		for _, c := range d.Ctors {
			ok = ok && c.Name != "" && (c.Has && properType(c.T, d.N) || !c.Has && c.T.Name == "" && c.T.Var == 0 && c.T.Kids == nil)
		}
	}
	if !ok {
		t.Errorf("Cell(%q): improper: %v", s, d)
	}
}

func properExpr(x api.Expr) bool {
	kids := map[byte]int{api.ECons: 2, api.EFun: 1, api.EApp: 2, api.ELet: 2, api.EIf: 3, api.ETry: 2, api.ESeq: 2, api.EOp: 2, api.ENeg: 1, api.EGet: 1}[x.Kind]
	switch x.Kind {
	case api.ECon:
		kids = min(len(x.Kids), 1)
	case api.ETuple:
		kids = max(len(x.Kids), 2)
	case api.EMatch:
		kids = max(len(x.Pats), 1) + 1
	}
	named := map[byte]bool{api.EText: x.Text != "", api.EVar: true, api.ECon: true, api.EFun: true, api.ELet: true, api.ETry: true, api.EOp: true}[x.Kind]
	ok := len(x.Kids) == kids && (x.Text != "") == named && (x.N == 0 || x.Kind == api.EInt && x.N > 0 || x.Kind == api.EBool && x.N == 1)
	ok = ok && (!x.Rec || x.Kind == api.ELet && x.Kids[0].Kind == api.EFun) && (x.Kind == api.EMatch || x.Pats == nil)
	for _, k := range x.Kids {
		ok = ok && properExpr(k)
	}
	for _, p := range x.Pats {
		ok = ok && properPat(p)
	}
	return ok
}

func properPat(p api.Pat) bool {
	kids := map[byte]int{api.PCons: 2}[p.Kind]
	switch p.Kind {
	case api.PCon:
		kids = min(len(p.Kids), 1)
	case api.PTuple:
		kids = max(len(p.Kids), 2)
	}
	named := map[byte]bool{api.PText: p.Text != "", api.PVar: true, api.PCon: true}[p.Kind]
	ok := len(p.Kids) == kids && (p.Text != "") == named && (p.N == 0 || p.Kind == api.PInt || p.Kind == api.PBool && p.N == 1)
	for _, k := range p.Kids {
		ok = ok && properPat(k)
	}
	return ok
}

func properType(x api.Type, n int) bool {
	if x.Name == "" {
		return x.Var >= 1 && x.Var <= n && x.Kids == nil
	}
	ok := x.Var == 0 && (x.Name != "->" || len(x.Kids) == 2) && (x.Name != "*" || len(x.Kids) >= 2)
	for _, k := range x.Kids {
		ok = ok && properType(k, n)
	}
	return ok
}
