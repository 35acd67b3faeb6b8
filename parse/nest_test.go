package parse_test

import (
	"strings"
	"testing"

	"battledore/api"
)

// nest is a construct that can be nested: what is ahead of it all, what is repeated ahead of the core, the core, what is repeated behind it; how often it may be, and how far behind the beginning of the next one its fault is.
type nest struct {
	ahead, open, core, shut, behind string
	most, fault                     int
}

func (n nest) text(times int) string {
	return n.ahead + strings.Repeat(n.open, times) + n.core + strings.Repeat(n.shut, times) + n.behind
}

// P4.1: MaxNest, for each construct that is counted. A term is the second one that is open, an atom in it the third.
func TestNest(t *testing.T) {
	for _, n := range []nest{
		{open: "(", core: "x", shut: ")", most: 15, fault: 1},  // an atom, an expression, a term
		{open: "(", core: "C", shut: ")", most: 16, fault: 0},  // a constructor at the beginning of a call is no atom
		{open: "(", core: "()", shut: ")", most: 15, fault: 1}, // in () is nothing
		{open: "(", core: "[]", shut: ")", most: 15, fault: 1},
		{open: "(x,", core: "x", shut: ",x)", most: 15, fault: 1},
		{open: "f(", core: "x", shut: ")x", most: 15, fault: 2},
		{open: "C(", core: "x", shut: ")", most: 15, fault: 2},
		{open: "C(", core: "C", shut: ")", most: 16, fault: 1},
		{open: "-", core: "x", most: 47, fault: 1}, // an operand
		{open: "-", core: "C", most: 48, fault: 1},
		{open: "-", core: "C x", most: 47, fault: 3}, // the constructor's argument is an atom
		{open: "-", core: "f x y", most: 47, fault: 1},
		{open: "!", core: "x", most: 47, fault: 1}, // an atom
		{open: "!", core: "C", most: 47, fault: 1},
		{open: "!", core: "()", most: 47, fault: 1},
		{open: "x;", core: "x", most: 47, fault: 2}, // an expression
		{open: "C;", core: "C", most: 48, fault: 2},
		{open: "x::", core: "x", most: 47, fault: 3}, // a right operand
		{open: "x^", core: "x", most: 47, fault: 2},
		{open: "x:=", core: "x", most: 47, fault: 3},
		{open: "x::x^", core: "x", most: 23, fault: 5},
		{open: "C::", core: "C", most: 48, fault: 3},
		{open: "[", core: "x", shut: "]", most: 23, fault: 1}, // an atom, a term
		{open: "[", core: "C", shut: "]", most: 24, fault: 0},
		{open: "[x;", core: "x", shut: ";x]", most: 23, fault: 1},
		{open: "fun x->", core: "x", most: 23, fault: 7}, // an expression, a term
		{open: "fun x->", core: "C", most: 24, fault: 7},
		{open: "let x=x in ", core: "x", most: 23, fault: 6}, // what is bound is as deep as the next one
		{open: "let x=C in ", core: "x", most: 23, fault: 11},
		{open: "let x=", core: "x", shut: " in x", most: 23, fault: 6}, // a declaration is parsed once more as an expression
		{ahead: "let a=", open: "let x=", core: "x", shut: " in x", most: 23, fault: 6},
		{open: "if x then x else ", core: "x", most: 46, fault: 3}, // a term; what is asked is an expression
		{open: "if C then C else ", core: "x", most: 47, fault: 3},
		{open: "if C then ", core: "C", shut: " else C", most: 47, fault: 3},
		{open: "if ", core: "x", shut: " then x else x", most: 23, fault: 3},
		{open: "match x with x->", core: "x", most: 23, fault: 6},
		{open: "match C with C->", core: "C", most: 24, fault: 6},
		{open: "match ", core: "x", shut: " with x->x", most: 23, fault: 6},
		{open: "try C with x->", core: "x", most: 23, fault: 14},
		{open: "try ", core: "x", shut: " with x->x", most: 23, fault: 4},
		{ahead: "match C with ", open: "(", core: "_", shut: ")", behind: "->C", most: 23, fault: 1}, // a pattern, a pattern atom
		{ahead: "match C with ", open: "(", core: "C", shut: ")", behind: "->C", most: 23, fault: 1},
		{ahead: "match C with ", open: "[", core: "_", shut: "]", behind: "->C", most: 23, fault: 1},
		{ahead: "match C with ", open: "(_,", core: "_", shut: ",_)", behind: "->C", most: 23, fault: 1},
		{ahead: "match C with ", open: "C(", core: "- 1", shut: ")", behind: "->C", most: 23, fault: 2},
		{ahead: "match C with ", open: "_::", core: "_", behind: "->C", most: 46, fault: 3}, // a pattern
		{ahead: "match C with ", open: "C::", core: "C", behind: "->C", most: 47, fault: 3},
		{ahead: "type t=A of ", open: "(", core: "t", shut: ")", most: 24, fault: 1}, // a type, an applied type
		{ahead: "type t=A of ", open: "(t,", core: "t", shut: ")t", most: 24, fault: 1},
		{ahead: "type 'a t=A of ", open: "t*(", core: "'a", shut: ")t t", most: 24, fault: 3},
		{ahead: "type t=A of ", open: "t->", core: "t", most: 48, fault: 3}, // a type
		{ahead: "type t=A of ", open: "t*t->", core: "t*t t", most: 48, fault: 5},
	} {
		valid(t, n.text(n.most))
		valid(t, "x ;; "+n.text(n.most)+" ;; "+n.text(n.most))
		wrong(t, n.text(n.most+1), len(n.ahead)+n.most*len(n.open)+n.fault, api.ErrDeep)
	}
}

// P4.1: what is open one after the other, not within one another, has no limit.
func TestNoNest(t *testing.T) {
	for _, n := range []nest{
		{open: "x+", core: "x"}, {open: "x-x*", core: "x"}, {open: "x||", core: "x"}, {open: "x<", core: "x"}, {open: "x mod ", core: "x"},
		{open: "x ", core: "x"}, {open: "C=", core: "C"}, {open: "x;;", core: "x"}, {open: "f(x)", core: "x"}, {open: "f!!x", core: "x"}, {open: "- x+", core: "x"},
		{ahead: "(", open: "x,", core: "x)"}, {ahead: "[", open: "x;", core: "x]"}, {ahead: "fun ", open: "x ", core: "x->x"}, {ahead: "match x with", open: "|C->x", core: "|_->x"},
		{ahead: "match x with (", open: "_,", core: "_)->x"}, {ahead: "match x with [", open: "_;", core: "_]->x"},
		{ahead: "type t=A of ", open: "t*", core: "t"}, {ahead: "type t=A of ", open: "t ", core: "t"}, {ahead: "type t=A of (", open: "t,", core: "t)t"},
	} {
		valid(t, n.text(300))
	}
}

// P4.1: operators of several levels, each of which is a right operand of the one ahead of it.
func TestNestOperators(t *testing.T) {
	open, shut := strings.Repeat("(", 15), strings.Repeat(")", 15) // 47 are open
	valid(t, open+"C||C&&C=C"+shut)
	wrong(t, open+"C||C&&C=C+C"+shut, 25, api.ErrDeep)
	wrong(t, open+"C||C&&C=x"+shut, 23, api.ErrDeep)
	valid(t, open+"C*C+C=C&&C||C"+shut)
	valid(t, open+"x*x+x=x&&x||x"+shut)
	valid(t, open+"C+C*C=C||C&&C"+shut)
	valid(t, open+"-C+C- -C"+shut)
	wrong(t, open+"- - -C+- - -C"+shut, 27, api.ErrDeep)
}

// P4.1: ErrDeep is ahead of the question whether the token may begin the construct; but where none need be, there is none.
func TestNestFirst(t *testing.T) {
	deep := strings.Repeat("-", 47) // 49 are open
	for _, s := range []string{")", "+", "", "then", "'a", ";;", "_", "x", "()", "!x", "["} {
		wrong(t, deep+"-"+s, 48, api.ErrDeep)
	}
	for _, s := range []string{")", "then", "'a", "_", "->"} {
		wrong(t, deep+s, 47, api.ErrText)
		wrong(t, deep+"x "+s, 49, api.ErrText)
	}
	wrong(t, deep+"", 47, api.ErrText)
	wrong(t, deep+"(", 48, api.ErrDeep)
	wrong(t, deep+"()(", 50, api.ErrDeep)
	wrong(t, deep+"[)", 48, api.ErrDeep)
	wrong(t, deep+"! )", 49, api.ErrDeep)
	valid(t, deep+"()")
	valid(t, deep+"[]")
	valid(t, deep+"x x")
	wrong(t, deep+"x+", 49, api.ErrText)
	wrong(t, deep+"-C x", 50, api.ErrDeep)
	wrong(t, deep+"-C )", 50, api.ErrText)
	valid(t, deep+"-C")
	pats := "match C with " + strings.Repeat("_::", 46) // a pattern more, and 50 are open
	wrong(t, pats+")", len(pats), api.ErrText)
	wrong(t, pats+"_::)", len(pats)+3, api.ErrDeep)
	wrong(t, pats+"C::)", len(pats)+3, api.ErrDeep)
	wrong(t, pats+"C(_)->C", len(pats)+2, api.ErrDeep)
	wrong(t, pats+"(_)->C", len(pats)+1, api.ErrDeep)
	valid(t, pats+"()->C")
	valid(t, pats+"C()->C")
	types := "type t=A of " + strings.Repeat("t->", 48)
	wrong(t, types+")", len(types), api.ErrText)
	wrong(t, types+"t->)", len(types)+3, api.ErrDeep)
	wrong(t, types+"t->'a", len(types)+3, api.ErrDeep)
	wrong(t, types+"()", len(types)+1, api.ErrDeep)
	wrong(t, types+"'a", len(types), api.ErrNone)
}
