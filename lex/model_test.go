package lex_test

import (
	"math/big"
	"math/rand"
	"regexp"
	"slices"
	"strings"
	"testing"

	"battledore/api"
	"battledore/lex"
)

var (
	spaces   = regexp.MustCompile(`^[ \t\n\r]+`)
	words    = regexp.MustCompile(`^[a-zA-Z'][a-zA-Z0-9_']*`)
	keyword  = regexp.MustCompile(`^(let|rec|in|fun|if|then|else|match|with|try|type|of|mod|true|false)$`)
	variable = regexp.MustCompile(`^'[a-z]`)
	digits   = regexp.MustCompile(`^[0-9]+`)
	stuck    = regexp.MustCompile(`^[0-9]+[a-zA-Z0-9_']`)
	strs     = regexp.MustCompile(`^"((?s:[^"\\])|\\[nt"\\])*`)
	sign     = regexp.MustCompile(`^(->|:=|;;|<>|<=|::|\|\||&&|[()\[\],;|=<+*/^!_-])`)
)

// model says by regular expressions what a text of ASCII has first behind white space and comments: a token, and the place behind it, or the place at fault.
func model(s string, at int) (api.Token, int, api.Errno) {
	switch rest := s[at:]; {
	case rest == "":
		return api.Token{Kind: api.TEnd, At: at}, at, api.OK
	case words.MatchString(rest):
		w := words.FindString(rest)
		kind := api.TName
		switch {
		case len(w) > 24:
			return api.Token{}, at, api.ErrLong
		case w[0] == '\'' && !variable.MatchString(w):
			return api.Token{}, at + 1, api.ErrText
		case w[0] == '\'':
			kind = api.TVar
		case keyword.MatchString(w):
			kind = api.TWord
		case w[0] < 'a':
			kind = api.TCon
		}
		return api.Token{Kind: kind, Text: w, At: at}, at + len(w), api.OK
	case digits.MatchString(rest):
		d := digits.FindString(rest)
		if stuck.MatchString(rest) && len(stuck.FindString(rest)) > len(d) {
			return api.Token{}, at + len(d), api.ErrText
		}
		if n, _ := new(big.Int).SetString(d, 10); n.BitLen() > 62 {
			return api.Token{}, at, api.ErrArg
		}
		return api.Token{Kind: api.TNum, Text: d, At: at}, at + len(d), api.OK
	case rest[0] == '"':
		q := strs.FindString(rest)
		end := at + len(q)
		if end == len(s) || s[end] == '\\' {
			return api.Token{}, min(end+1, len(s)), api.ErrText
		}
		text := strings.NewReplacer(`\n`, "\n", `\t`, "\t", `\"`, `"`, `\\`, `\`).Replace(q[1:])
		return api.Token{Kind: api.TText, Text: text, At: at}, end + 1, api.OK
	case sign.MatchString(rest):
		x := sign.FindString(rest)
		return api.Token{Kind: api.TSign, Text: x, At: at}, at + len(x), api.OK
	}
	return api.Token{}, at, api.ErrText
}

// between passes white space and comments, as far as a comment that does not end.
func between(s string, at int) (int, bool) {
	for {
		at += len(spaces.FindString(s[at:]))
		if !strings.HasPrefix(s[at:], "(*") {
			return at, true
		}
		start, open := at, 1
		for at += 2; open > 0; at++ {
			if at >= len(s) {
				return start, false
			}
			if strings.HasPrefix(s[at:], "(*") {
				open, at = open+1, at+1
			} else if strings.HasPrefix(s[at:], "*)") {
				open, at = open-1, at+1
			}
		}
	}
}

func modelTokens(s string) (tokens, int, api.Errno) {
	var out tokens
	at := 0
	for {
		from, ok := between(s, at)
		if !ok {
			return nil, from, api.ErrText
		}
		t, end, e := model(s, from)
		if e != api.OK {
			return nil, end, e
		}
		if out = append(out, t); t.Kind == api.TEnd {
			return out, 0, api.OK
		}
		at = end
	}
}

// P3.1, P3.2 and P1: random texts, held against the model.
func TestLikeModel(t *testing.T) {
	rnd := rand.New(rand.NewSource(3))
	bits := strings.Split("let|rec|'|a|z|A|Z|0|9|_|''|aaaaaaaa|4611686018427387903|4611686018427387904|\"|\"|\\|\\n|n|t|->|-|>|:|=|;|;;|<|&|&&|(|)|[|]|,|+|*|/|^|!| |\n|\t|\r|(*|*)|(|*)|#|.|mod|true", "|")
	bits = append(bits, "|", "||")
	for range 200000 {
		var b strings.Builder
		for range rnd.Intn(12) {
			b.WriteString(bits[rnd.Intn(len(bits))])
		}
		s := b.String()
		want, wantAt, wantE := modelTokens(s)
		l, at, e := lex.Tokens(s)
		if e != wantE || at != wantAt || !slices.Equal(l, want) {
			t.Fatalf("Tokens(%q) = %v, %d at %d; the model: %v, %d at %d", s, l, e, at, want, wantE, wantAt)
		}
	}
}

// P1: any bytes; and P2: the same text has the same tokens, in new memory.
func TestAnyBytes(t *testing.T) {
	rnd := rand.New(rand.NewSource(30))
	for range 20000 {
		p := make([]byte, rnd.Intn(40))
		rnd.Read(p)
		s := string(p)
		l, at, e := lex.Tokens(s)
		again, _, _ := lex.Tokens(s)
		want := slices.Clone(again)
		if e == api.OK && at != 0 || at < 0 || at > len(s) || e != api.OK && len(l) != 0 {
			t.Fatalf("Tokens(%q) = %v, %d at %d", s, l, e, at)
		}
		l = l[:cap(l)]
		for i := range l {
			l[i] = api.Token{Kind: 99}
		}
		if !slices.Equal(again, want) {
			t.Fatalf("Tokens(%q): two results share memory", s)
		}
	}
}
