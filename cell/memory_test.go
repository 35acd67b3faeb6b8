package cell_test

import (
	"strconv"
	"strings"
	"testing"

	"battledore/api"
	"battledore/cell"
)

// numbered: so many names.
func numbered(name string, n int) []string {
	var l []string
	for i := range n {
		l = append(l, name+strconv.Itoa(i))
	}
	return l
}

// P12.2: ErrMem isn't returned, if four times the words of all objects, and 20 for each byte of the cells, are there.
func TestEnoughWords(t *testing.T) {
	many := numbered("n", 49)
	sum, ones := strings.Join(many, "+"), "1"+strings.Repeat(",1", 48)
	for what, cells := range map[string][]string{
		"a number":                       {"1"},
		"no cell":                        {"", " ", "x"},
		"a list":                         {"let rec up n=if n=0 then[]else n::up(n-1);;let l=up 3000;;let k=up 2000"},
		"tuples":                         {"let rec f n=if n=0 then[]else(n,n)::f(n-1);;let l=f 2000"},
		"wide ones":                      {"let rec f n=if n=0 then[]else(" + ones + ")::f(n-1);;let l=f 500"},
		"refs":                           {"let r=ref(ref[ref 0])", "let rec f n=if n=0 then()else(!r:=ref n:: !(!r);f(n-1))", "f 2000", "f 1000;;!r"},
		"trees":                          {"type t=L|N of t*t;;let rec f n=if n=0 then L else N(f(n-1),f(n-1))", "let t=f 11"},
		"numbers":                        {"type s=Z|S of s;;let rec f n=if n=0 then Z else S(f(n-1))", "let s=f 3000"},
		"texts":                          {"let rec f n=if n=0 then[]else itoa n::f(n-1)", "let l=f 3000", "let l=\"a\"::\"\"::l"},
		"long texts":                     {"let rec f n=if n=0 then\"x\"else let s=f(n-1)in s^s", "let l=[f 12;f 12;f 11;f 12]"},
		"a growing text":                 {"let r=ref\"\"", "let rec f n=if n=0 then()else(r:= !r^\"x\";f(n-1))", "f 1500;;size !r"},
		"functions":                      {"let rec f n=if n=0 then[]else(fun x->x+n)::f(n-1)", "let l=f 2000"},
		"functions that know themselves": {"let rec f n=if n=0 then[]else(let rec g x=if x=0 then n else g(x-1)in g)::f(n-1)", "let l=f 2000;;match l with g::_->g 5|_->0"},
		"functions of functions":         {"let rec f g n=if n=0 then g else f(fun x->g(x+1))(n-1)", "let h=f(fun x->x)3000", "h 1"},
		"half of what they ask for":      {"let rec f n=if n=0 then[]else(fun a b c->a+b+c)n n::f(n-1)", "let l=f 2000"},
		"exceptions":                     {"let rec f n=if n=0 then 0 else try 1/0 with e->f(n-1)+size e", "f 2000"},
		"exceptions that are kept":       {"let rec f n=if n=0 then[]else(try itoa(1/0)with e->e)::f(n-1)", "let l=f 2000"},
		"functions of many names":        {"let rec f n=if n=0 then[]else(match(" + ones + ")with(" + strings.Join(many, ",") + ")->fun x->" + sum + "+x+n)::f(n-1)", "let l=f 300;;match l with g::_->g 5|_->0"},
		"functions of too many names":    {"let t=(" + ones + ")", "let rec f n=if n=0 then[]else(match t with(" + strings.Join(many, ",") + ")->match t with(" + strings.Join(numbered("m", 49), ",") + ")->fun x->" + sum + "+" + strings.Join(numbered("m", 49), "+") + "+x+n)::f(n-1)", "let l=f 300;;match l with g::_->g 5|_->0"},
		"functions of many arguments":    {"let rec f n=if n=0 then[]else(fun " + strings.Join(numbered("m", 80), " ") + "->fun x->" + strings.Join(numbered("m", 80), "+") + "+x+n)" + strings.Repeat(" 1", 80) + "::f(n-1)", "let l=f 50;;match l with g::_->g 5|_->0"},
		"garbage":                        {"let rec f n=if n=0 then 0 else(match(n,[n],itoa n)with(a,_,_)->f(a-1))", "f 4000;;f 4000;;f 1000"},
		"what fails":                     {"let r=ref[0]", "let rec f n=if n=0 then()else(r:=n:: !r;f(n-1))", "f 2000;fail\"x\"", "f 1000", "f 2000;fail\"x\"", "!r"},
	} {
		b, need := newBook(), 16
		var want []api.Outcome
		for _, s := range cells {
			before := b.words
			o, _, words := b.run(s, api.MaxFuel)
			need = max(need, 4*(before+words))
			want = append(want, o)
		}
		if need > api.MaxWords {
			t.Errorf("%s: %d words are more than there may be", what, need)
			need = api.MaxWords
		}
		x := made(t, need)
		for i, s := range cells {
			y, o := cell.Run(x, s, api.MaxFuel)
			if !sameOutcome(o, want[i]) {
				t.Errorf("%s: %.200s: %.300s, not %.300s", what, s, told(o), told(want[i]))
			}
			x = y
		}
	}
}

// P12.2, P10.4: what no longer is reached goes; what is reached is as it was.
func TestFewWords(t *testing.T) {
	x := after(t, made(t, 120), "let l = [\"a\"; \"b\"; \"c\"] ;; let r = ref (1, l)", "let rec f n = if n = 0 then () else (r := (n, itoa n :: l); f (n - 1))")
	want := `- : unit = (); - : (int * string list) ref = {(1, ["1"; "a"; "b"; "c"])}; - : string list = ["a"; "b"; "c"]`
	mustTell(t, x, "f 5000 ;; r ;; l", api.MaxFuel, want)
	for range 50 {
		x = mustTell(t, x, "f 100 ;; r ;; l", enough, want)
	}
	mustTell(t, x, "let rec g n = if n = 0 then [] else n :: g (n - 1) ;; g 100", enough, "E11")
}
