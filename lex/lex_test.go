package lex_test

import (
	"slices"
	"strings"
	"testing"

	"battledore/api"
	"battledore/lex"
)

type tokens = []api.Token

// tell writes tokens down, by kinds and texts, without the end.
func tell(l tokens) string {
	letters := " nCvdsWS"
	var out []string
	for _, t := range l {
		if t.Kind != api.TEnd {
			out = append(out, letters[t.Kind:t.Kind+1]+":"+t.Text)
		}
	}
	return strings.Join(out, " ")
}

// is asks which tokens a text has.
func is(t *testing.T, s, want string) {
	t.Helper()
	l, at, e := lex.Tokens(s)
	if e != api.OK || at != 0 || tell(l) != want {
		t.Errorf("Tokens(%q) = %s, %d at %d, want %s", s, tell(l), e, at, want)
	}
	if n := len(l); e == api.OK && l[n-1] != (api.Token{Kind: api.TEnd, At: len(s)}) {
		t.Errorf("Tokens(%q) ends in %v", s, l[n-1])
	}
}

// wrong asks which error a text has, and where.
func wrong(t *testing.T, s string, at int, e api.Errno) {
	t.Helper()
	l, gotAt, got := lex.Tokens(s)
	if got != e || gotAt != at || len(l) != 0 {
		t.Errorf("Tokens(%q) = %d tokens, %d at %d, want %d at %d", s, len(l), got, gotAt, e, at)
	}
}

// P3.1: keywords, names, constructors, variables.
func TestWords(t *testing.T) {
	for _, w := range strings.Fields("let rec in fun if then else match with try type of mod true false") {
		is(t, w, "W:"+w)
		is(t, w+"s", "n:"+w+"s")
		is(t, w+"'", "n:"+w+"'")
		is(t, w+"_", "n:"+w+"_")
		is(t, w+"1", "n:"+w+"1")
		is(t, "'"+w, "v:'"+w)
		is(t, strings.ToUpper(w), "C:"+strings.ToUpper(w))
	}
	for s, want := range map[string]string{
		"":            "",
		"a":           "n:a",
		"z9":          "n:z9",
		"aZ_'0":       "n:aZ_'0",
		"x'y":         "n:x'y",
		"A":           "C:A",
		"Z":           "C:Z",
		"Let":         "C:Let",
		"Aa'_9":       "C:Aa'_9",
		"'a":          "v:'a",
		"'z":          "v:'z",
		"'aB_'9":      "v:'aB_'9",
		"'a'b":        "v:'a'b",
		"true false":  "W:true W:false",
		"leti n":      "n:leti n:n",
		"raise ref":   "n:raise n:ref",
		"f 'a(**)x1":  "n:f v:'a n:x1",
		"elsethen":    "n:elsethen",
		"if(then)":    "W:if S:( W:then S:)",
		"as when end": "n:as n:when n:end",
	} {
		is(t, s, want)
	}
}

// P3.1: signs, each as long as possible.
func TestSigns(t *testing.T) {
	all := strings.Fields("-> := ;; <> <= :: || && ( ) [ ] , ; | = < + - * / ^ ! _")
	for _, s := range all {
		is(t, s, "S:"+s)
		is(t, "(1 "+s+"x", "S:( d:1 S:"+s+" n:x")
	}
	is(t, strings.Join(all, " "), "S:"+strings.Join(all, " S:"))
	for s, want := range map[string]string{
		"-->":   "S:- S:->",
		"->-":   "S:-> S:-",
		":=:=":  "S::= S::=",
		":::=":  "S::: S::=",
		"::::":  "S::: S:::",
		";;;":   "S:;; S:;",
		";;;;":  "S:;; S:;;",
		"; ;":   "S:; S:;",
		"<><":   "S:<> S:<",
		"<<>":   "S:< S:<>",
		"<<=":   "S:< S:<=",
		"<==":   "S:<= S:=",
		"<-":    "S:< S:-",
		"|||":   "S:|| S:|",
		"| |":   "S:| S:|",
		"&&&&":  "S:&& S:&&",
		"!=":    "S:! S:=",
		"!!":    "S:! S:!",
		"()":    "S:( S:)",
		"[]":    "S:[ S:]",
		"*)":    "S:* S:)",
		"( *)":  "S:( S:* S:)",
		"__":    "S:_ S:_",
		"_x":    "S:_ n:x",
		"_'a":   "S:_ v:'a",
		"_1":    "S:_ d:1",
		"x_":    "n:x_",
		"1+-2":  "d:1 S:+ S:- d:2",
		"a-b":   "n:a S:- n:b",
		"/*":    "S:/ S:*",
		"1;2":   "d:1 S:; d:2",
		"a,B,c": "n:a S:, C:B S:, n:c",
	} {
		is(t, s, want)
	}
}

// P3.1: numbers; their text is their digits.
func TestNumbers(t *testing.T) {
	for s, want := range map[string]string{
		"0":                          "d:0",
		"9":                          "d:9",
		"007":                        "d:007",
		"1234567890":                 "d:1234567890",
		"4611686018427387903":        "d:4611686018427387903",
		"00004611686018427387903":    "d:00004611686018427387903",
		"-4611686018427387903":       "S:- d:4611686018427387903",
		"1 2":                        "d:1 d:2",
		"1\"a\"":                     "d:1 s:a",
		"1(2)":                       "d:1 S:( d:2 S:)",
		"1(**)2":                     "d:1 d:2",
		strings.Repeat("0", 2000):    "d:" + strings.Repeat("0", 2000),
		"x" + strings.Repeat("1", 9): "n:x111111111",
	} {
		is(t, s, want)
	}
	for s, at := range map[string]int{
		"4611686018427387904":        0,
		"  4611686018427387904 ":     2,
		"9223372036854775808":        0,
		"18446744073709551616":       0,
		"99999999999999999999999999": 0,
		"04611686018427387904":       0,
		"x 9999999999999999999#":     2,
		"9999999999999999999\xc3":    0,
		"1;4611686018427387904":      2,
	} {
		wrong(t, s, at, api.ErrArg)
	}
	for s, at := range map[string]int{
		"1x": 1, "12X": 2, "1_": 1, "1'": 1, "1'a": 1, "0x10": 1, "1let": 1, "a 7b": 3,
		"4611686018427387904x":  19,
		"99999999999999999999_": 20,
	} {
		wrong(t, s, at, api.ErrText)
	}
}

// P3.1: strings, with what their bytes stand for.
func TestTexts(t *testing.T) {
	for s, want := range map[string]string{
		`""`:                                  "s:",
		`"a"`:                                 "s:a",
		`"\n\t\"\\"`:                          "s:\n\t\"\\",
		`"\\n"`:                               `s:\n`,
		"\"\n\t\r\"":                          "s:\n\t\r",
		"\"\x00\xff\xc3\xa9\"":                "s:\x00\xff\xc3\xa9",
		`"(* a"`:                              "s:(* a",
		`"let 'a -> 1x"`:                      "s:let 'a -> 1x",
		`"a""b"`:                              "s:a s:b",
		`"a"b`:                                "s:a n:b",
		`"'"`:                                 "s:'",
		`"` + strings.Repeat("x", 1998) + `"`: "s:" + strings.Repeat("x", 1998),
	} {
		is(t, s, want)
	}
	for s, at := range map[string]int{
		`"`: 1, `"a`: 2, `x "ab c`: 7, `"a\`: 3, `"\`: 2, `"a\"`: 4, `"\\\"`: 5,
		`"\r"`: 2, `"\a"`: 2, `"ab\x41"`: 4, `"\'"`: 2, `"\0"`: 2, "\"\\\n\"": 2, "\"\\\x00\"": 2, `"\N"`: 2, `"a" "\q`: 6, `"\ "`: 2,
	} {
		wrong(t, s, at, api.ErrText)
	}
}

// P3.1: white space and comments stand between tokens.
func TestBetween(t *testing.T) {
	for s, want := range map[string]string{
		" \t\n\ra \t\n\rb \t\n\r":   "n:a n:b",
		"(**)":                      "",
		"(* *)(**) (***)(****)":     "",
		"a(*x*)b":                   "n:a n:b",
		"(* (* *) *)a":              "n:a",
		"(*(*(**)*)(**)*)a":         "n:a",
		"(*)*)a":                    "n:a",
		"(*(*)*)*)a":                "n:a",
		"(* \" *)a":                 "n:a",
		"(* 'A 1x # \\ \xff\n *) a": "n:a",
		"(***)a":                    "n:a",
		"let(**)x":                  "W:let n:x",
		"-(**)-(**)":                "S:- S:-",
		";(**);":                    "S:; S:;",
		"a (* b *) c (* d *)":       "n:a n:c",
	} {
		is(t, s, want)
	}
	for s, at := range map[string]int{
		"(*": 0, "a (* b": 2, "(* (* *)": 0, "(*)": 0, "a(*)b": 1, "(**) (*(**)": 5, "(* *) *) (*": 9, "(*\"*)\"": 6,
		"(* a *": 0, "(*(**)a": 0, "a (*\n(* b *) c": 2,
	} {
		wrong(t, s, at, api.ErrText)
	}
}

// P3.1: At is where the first byte of a token is.
func TestPlaces(t *testing.T) {
	for s, want := range map[string][]int{
		"":                         {0},
		"  ":                       {2},
		"(* *)":                    {5},
		"a":                        {0, 1},
		" f 'a(**)x1 ":             {1, 3, 9, 12},
		`"\n\t" "b"12->C::[(*;*)]`: {0, 7, 10, 12, 14, 15, 17, 23, 24},
		"let\nx=1":                 {0, 4, 5, 6, 7},
	} {
		l, _, _ := lex.Tokens(s)
		var got []int
		for _, x := range l {
			got = append(got, x.At)
		}
		if !slices.Equal(got, want) {
			t.Errorf("%q: at %v, want %v", s, got, want)
		}
	}
}

// P3.2: bytes with which no token begins, alone and behind others.
func TestNoToken(t *testing.T) {
	for b := range 256 {
		s := string([]byte{byte(b)})
		if strings.Contains("()[],;|=<+-*/^!_ \t\n\r", s) || b >= '0' && b <= '9' || b|32 >= 'a' && b|32 <= 'z' {
			if _, _, e := lex.Tokens(s); e != api.OK {
				t.Errorf("Tokens(%q): %d", s, e)
			}
			continue
		}
		at := 0
		if s == "'" || s == `"` {
			at = 1
		}
		wrong(t, s, at, api.ErrText)
		wrong(t, "a  "+s, 3+at, api.ErrText)
	}
	for s, at := range map[string]int{":": 0, "a : b": 2, "&": 0, "a & & b": 2, "&&&": 2, ":=:": 2, "x > y": 2, "->>": 2, "=>": 1, "a.b": 1, "1.5": 1, "#1x": 0, "a\x0bb": 1, "\x0c": 0, "\xc2\xa0": 0, "é": 0, "xé": 1} {
		wrong(t, s, at, api.ErrText)
	}
}

// P3.2: a ' must have a lower-case letter behind it.
func TestVariables(t *testing.T) {
	for s, at := range map[string]int{"'": 1, "''": 1, "''a": 1, "'A": 1, "'1": 1, "'_": 1, "'_a": 1, "' a": 1, "x '": 3, "'\xe9": 1, "f 'a 'B": 6, "'(**)a": 1} {
		wrong(t, s, at, api.ErrText)
	}
}

// P3.2: MaxName, ahead of all else that is wrong with a name.
func TestLongNames(t *testing.T) {
	long := strings.Repeat("b", api.MaxName-1)
	is(t, "a"+long, "n:a"+long)
	is(t, "A"+long, "C:A"+long)
	is(t, "'"+long, "v:'"+long)
	is(t, "_"+long+"b", "S:_ n:"+long+"b")
	is(t, "a"+long+"-b", "n:a"+long+" S:- n:b")
	for _, s := range []string{"ab" + long, "Ab" + long, "'b" + long, "'B" + long, "''" + long, "'1" + long, "ab" + long + long, "let" + long, "a" + long + "'", "a" + long + "_", "a" + long + "0"} {
		wrong(t, s, 0, api.ErrLong)
		wrong(t, "x + "+s+" #", 4, api.ErrLong)
	}
	wrong(t, "1a"+long+"b", 1, api.ErrText)
	is(t, `"`+long+long+`"`, "s:"+long+long)
}

// P3.2: MaxSource, ahead of all else.
func TestLongSource(t *testing.T) {
	for _, s := range []string{"a", " ", "#", "\"", "(*", "1x", "'"} {
		most := s + strings.Repeat(" ", api.MaxSource-len(s))
		if _, _, e := lex.Tokens(most); e == api.ErrLong {
			t.Errorf("%q and blanks: too long", s)
		}
		wrong(t, most+" ", 0, api.ErrLong)
	}
	wrong(t, strings.Repeat("a ", 500000), 0, api.ErrLong)
	if l, _, e := lex.Tokens(strings.Repeat("-", api.MaxSource)); e != api.OK || len(l) != api.MaxSource+1 {
		t.Errorf("as many tokens as may be: %d, %d", len(l), e)
	}
}

// P3.2: the first error from the left.
func TestFirstError(t *testing.T) {
	long, great := strings.Repeat("n", 25), "4611686018427387904"
	wrong(t, "# "+long, 0, api.ErrText)
	wrong(t, long+" #", 0, api.ErrLong)
	wrong(t, great+" "+long, 0, api.ErrArg)
	wrong(t, long+" "+great, 0, api.ErrLong)
	wrong(t, "1x "+great, 1, api.ErrText)
	wrong(t, great+" 1x", 0, api.ErrArg)
	wrong(t, `"\q `, 2, api.ErrText)
	wrong(t, `(* "\q" 1x`, 0, api.ErrText)
	wrong(t, `"a (* `, 6, api.ErrText)
	wrong(t, `'A (*`, 1, api.ErrText)
}
