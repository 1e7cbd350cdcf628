package lex

import (
	"regexp"
	"scrimshaw/api"
	"scrimshaw/data"
	"slices"
	"strconv"
	"strings"
	"testing"
)

const nameBytes = "abcdefghijklmnopqrstuvwxyzABCDEFGHIJKLMNOPQRSTUVWXYZ0123456789!$%&*/:<=>?^_~+-.@"

func isName(b int) bool { return strings.IndexByte(nameBytes, byte(b)) >= 0 }

func oneByte(b int) string { return string([]byte{byte(b)}) }

// tok is a token whose place is filled in by placed.
func tok(kind, n int, text string) api.Token { return api.Token{Kind: kind, Int: n, Text: text} }

func open() api.Token           { return tok(api.TokOpen, 0, "") }
func shut() api.Token           { return tok(api.TokClose, 0, "") }
func vector() api.Token         { return tok(api.TokVector, 0, "") }
func quote() api.Token          { return tok(api.TokQuote, 0, "") }
func dot() api.Token            { return tok(api.TokDot, 0, "") }
func truth(n int) api.Token     { return tok(api.TokBool, n, "") }
func num(n int) api.Token       { return tok(api.TokInt, n, "") }
func char(n int) api.Token      { return tok(api.TokChar, n, "") }
func str(text string) api.Token { return tok(api.TokString, 0, text) }
func sym(text string) api.Token { return tok(api.TokSymbol, 0, text) }

func placed(t api.Token, at, end int) api.Token {
	t.At, t.End = at, end
	return t
}

// wantTokens asks for the tokens, whose places are those of the pieces that s is put together from: gap, token, gap, token, .., gap.
func wantTokens(t *testing.T, pieces []string, want ...api.Token) {
	t.Helper()
	s := strings.Join(pieces, "")
	at := 0
	for i := range want {
		at += len(pieces[2*i])
		want[i] = placed(want[i], at, at+len(pieces[2*i+1]))
		at = want[i].End
	}
	wantAll(t, s, want)
}

func wantAll(t *testing.T, s string, want []api.Token) {
	t.Helper()
	got, at, e := Tokens(s)
	if !slices.Equal(got, want) || at != 0 || e != api.OK {
		t.Errorf("Tokens(%.200q): %.900q, %d, %v; want %.900q", s, told(got), at, e, told(want))
	}
}

// wantOne asks for the one token that the whole of s says.
func wantOne(t *testing.T, s string, want api.Token) {
	t.Helper()
	wantAll(t, s, []api.Token{placed(want, 0, len(s))})
}

// wantWrong asks for the error and its place, and for no tokens.
func wantWrong(t *testing.T, s string, at int, e api.Errno) {
	t.Helper()
	if got, gotAt, gotE := Tokens(s); len(got) != 0 || gotAt != at || gotE != e {
		t.Errorf("Tokens(%.200q): %.900q, %d, %v; want %d, %v", s, told(got), gotAt, gotE, at, e)
	}
}

func told(l []api.Token) string {
	var out strings.Builder
	for _, x := range l {
		for _, n := range []int{x.Kind, x.Int, x.At, x.End} {
			out.WriteString(strconv.Itoa(n) + " ")
		}
		out.WriteString(strconv.Quote(x.Text) + "; ")
	}
	return out.String()
}

// The other lexer of the tests: it knows the table by patterns, and works on bytes below 128 alone.
var (
	gapOf    = regexp.MustCompile(`^(?:[\t\n\r ]|;[^\n]*)*`)
	markOf   = regexp.MustCompile(`^(?:#\(|[()'])`)
	boolOf   = regexp.MustCompile(`^#(t|f)` + wordEnd)
	charOf   = regexp.MustCompile(`^(?s)#\\(?:([` + nameClass + `]+)|([^` + nameClass + `]))`)
	stringOf = regexp.MustCompile(`^"((?:[^"\\]|\\["\\n]|\\x[0-9a-fA-F]{2})*)"`)
	escapeOf = regexp.MustCompile(`\\(?:x..|.)`)
	wordOf   = regexp.MustCompile(`^[` + nameClass + `]+`)
	numberOf = regexp.MustCompile(`^[+-]?[0-9]+$`)
	hexOf    = regexp.MustCompile(`^x[0-9a-fA-F]{2}$`)
)

const (
	nameClass = `a-zA-Z0-9!$%&*/:<=>?^_~+.@\-`
	wordEnd   = `(?:[^` + nameClass + `]|$)`
)

// patterned answers as Tokens is to answer.
func patterned(s string) ([]api.Token, int, api.Errno) {
	if len(s) > 4096 {
		return nil, 0, api.ErrLexLong
	}
	var out []api.Token
	for at := len(gapOf.FindString(s)); at < len(s); {
		if len(out) == 2048 {
			return nil, at, api.ErrLexMany
		}
		x, size, e := patternedFirst(s[at:])
		if e != api.OK {
			return nil, at, e
		}
		out = append(out, placed(x, at, at+size))
		at += size
		at += len(gapOf.FindString(s[at:]))
	}
	return out, 0, api.OK
}

func patternedFirst(s string) (api.Token, int, api.Errno) {
	if m := markOf.FindString(s); m != "" {
		return tok(map[string]int{"(": api.TokOpen, ")": api.TokClose, "'": api.TokQuote, "#(": api.TokVector}[m], 0, ""), len(m), api.OK
	}
	if m := boolOf.FindStringSubmatch(s); m != nil {
		return truth(strings.Index("ft", m[1])), 2, api.OK
	}
	if m := charOf.FindStringSubmatch(s); m != nil {
		return patternedChar(m[0], m[1]+m[2])
	}
	if s[0] == '#' {
		return api.Token{}, 0, api.ErrLexHash
	}
	if m := stringOf.FindStringSubmatch(s); m != nil {
		return str(escapeOf.ReplaceAllStringFunc(m[1], patternedEscape)), len(m[0]), api.OK
	}
	if s[0] == '"' {
		return api.Token{}, 0, api.ErrLexText
	}
	if m := wordOf.FindString(s); m != "" {
		return patternedWord(m)
	}
	return api.Token{}, 0, api.ErrLexByte
}

func patternedChar(all, name string) (api.Token, int, api.Errno) {
	n, ok := map[string]int{"space": 32, "newline": 10}[name]
	if len(name) == 1 {
		n, ok = int(name[0]), true
	} else if hexOf.MatchString(name) {
		n, ok = int(patternedEscape(`\` + name)[0]), true
	}
	if !ok {
		return api.Token{}, 0, api.ErrLexHash
	}
	return char(n), len(all), api.OK
}

func patternedEscape(s string) string {
	if s[1] == 'x' {
		n, _ := strconv.ParseUint(s[2:], 16, 8)
		return oneByte(int(n))
	}
	return strings.ReplaceAll(s[1:], "n", "\n")
}

func patternedWord(word string) (api.Token, int, api.Errno) {
	if word == "." {
		return dot(), 1, api.OK
	}
	if numberOf.MatchString(word) {
		n, err := strconv.ParseInt(word, 10, 64)
		if err != nil || n < -1<<60 || n >= 1<<60 {
			return api.Token{}, 0, api.ErrLexNumber
		}
		return num(int(n)), len(word), api.OK
	}
	if len(word) > 64 {
		return api.Token{}, 0, api.ErrLexName
	}
	return sym(word), len(word), api.OK
}

func TestNameBytesOfTheTests(t *testing.T) {
	for b := range 256 {
		if data.Name("a"+oneByte(b)) != isName(b) {
			t.Errorf("%q", oneByte(b))
		}
		if b < 128 && wordOf.MatchString(oneByte(b)) != isName(b) {
			t.Errorf("%q, by patterns", oneByte(b))
		}
	}
}
