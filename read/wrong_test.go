package read

import (
	"scrimshaw/api"
	"strings"
	"testing"
)

// P4.1, sources that are not read

type mistake struct {
	s  string
	at int
	e  api.Errno
}

func TestClosingBrackets(t *testing.T) {
	for _, m := range []mistake{
		// with nothing open
		{")", 0, api.ErrReadClose},
		{" ; x\n)", 5, api.ErrReadClose},
		{"a)", 1, api.ErrReadClose},
		{"())", 2, api.ErrReadClose},
		{"#())", 3, api.ErrReadClose},
		{"(a . b))", 7, api.ErrReadClose},
		{"'a)", 2, api.ErrReadClose},
		{"(a)) (b", 3, api.ErrReadClose},
		// behind a sign of quoting
		{"')", 1, api.ErrReadClose},
		{"'')", 2, api.ErrReadClose},
		{"(')", 2, api.ErrReadClose},
		{"(a ' )", 5, api.ErrReadClose},
		{"#(')", 3, api.ErrReadClose},
		{"(a . ')", 6, api.ErrReadClose},
		{"(a . ' ; x\n)", 11, api.ErrReadClose},
		{"('a ')", 5, api.ErrReadClose},
		// behind a dot
		{"(a . )", 5, api.ErrReadClose},
		{"(a b .)", 6, api.ErrReadClose},
		{"(() .)", 5, api.ErrReadClose},
		{"(a . (b . ))", 10, api.ErrReadClose},
		{"'(a . )", 6, api.ErrReadClose},
		{"#((a . ))", 7, api.ErrReadClose},
	} {
		wantWrong(t, m.s, m.at, m.e)
		wantWrong(t, "b\n"+m.s+" ; x", m.at+2, m.e)
	}
}

func TestWrongDots(t *testing.T) {
	for _, m := range []mistake{
		// outside of brackets
		{".", 0, api.ErrReadDot},
		{". a", 0, api.ErrReadDot},
		{"a . b", 2, api.ErrReadDot},
		{"() . ()", 3, api.ErrReadDot},
		{"(a . b) . c", 8, api.ErrReadDot},
		{"'a . b", 3, api.ErrReadDot},
		// behind nothing
		{"( . a)", 2, api.ErrReadDot},
		{"(.)", 1, api.ErrReadDot},
		{"(a ( . b))", 5, api.ErrReadDot},
		{"#(( . a))", 4, api.ErrReadDot},
		// in a vector
		{"#(.)", 2, api.ErrReadDot},
		{"#( . a)", 3, api.ErrReadDot},
		{"#(a . b)", 4, api.ErrReadDot},
		{"(a . #(b . c))", 9, api.ErrReadDot},
		{"(a #(b . c) . d)", 7, api.ErrReadDot},
		// behind a sign of quoting
		{"'.", 1, api.ErrReadDot},
		{"'. a", 1, api.ErrReadDot},
		{"('. a)", 2, api.ErrReadDot},
		{"(a '. b)", 4, api.ErrReadDot},
		{"(a . '. b)", 6, api.ErrReadDot},
		{"''.", 2, api.ErrReadDot},
		// behind a dot, and behind what is behind it
		{"(a . . b)", 5, api.ErrReadDot},
		{"(a . b . c)", 7, api.ErrReadDot},
		{"(a . (b . c) . d)", 13, api.ErrReadDot},
	} {
		wantWrong(t, m.s, m.at, m.e)
		wantWrong(t, "b\n"+m.s+" ; x", m.at+2, m.e)
	}
}

func TestTwoDataBehindADot(t *testing.T) {
	for _, b := range []string{"b", "5", "#t", `#\a`, `"s"`, "()", "(b)", "(b . c)", "#(b)", "'b", "''b"} {
		ahead := "(a . " + b + " "
		for _, behind := range []string{"c", "5", "#f", `#\c`, `"s"`, "(", "#(", "'", ".", "c)", "()", "#())", "'c)", ". c)", "c d)", "(c . d))", "')", "(. "} {
			wantWrong(t, ahead+behind, len(ahead), api.ErrReadDot)
			wantWrong(t, "'#("+ahead+behind, len(ahead)+3, api.ErrReadDot)
			wantWrong(t, "(a . "+ahead+behind, len(ahead)+5, api.ErrReadDot)
		}
		wantWrong(t, ahead, len(ahead), api.ErrReadEnd)
		wantWrong(t, "(a "+ahead+") . (b) c)", len(ahead)+11, api.ErrReadDot)
	}
}

func TestSourcesThatEndTooEarly(t *testing.T) {
	for _, s := range []string{"(", "#(", "'", "''", "(a", "(a b", "#(a", "((", "(()", "(#()", "('", "('a", "#('", "(a .", "(a . '", "(a . b", "(a . ()", "(a . (b)", "(a . (b . c)", "(a . (b .", "(a . #(b", "'(", "'(a", "a '", "a (b", "() (", "(a ; b)"} {
		for _, gap := range []string{"", " ", "\n", " \t\r\n", "; x", " ; )\n", " ; x\n ;"} {
			wantWrong(t, s+gap, len(s+gap), api.ErrReadEnd)
			wantWrong(t, " "+s+gap, len(s+gap)+1, api.ErrReadEnd)
			wantWrong(t, "a (b) 'c "+s+gap, len(s+gap)+9, api.ErrReadEnd)
		}
	}
	wantWrong(t, "("+strings.Repeat(" ", 4095), 4096, api.ErrReadEnd)
	wantWrong(t, strings.Repeat("()", 1023)+"((", 2048, api.ErrReadEnd)
}

func TestTheErrorsOfTokens(t *testing.T) {
	for _, m := range []mistake{
		{"[", 0, api.ErrLexByte},
		{"\xff", 0, api.ErrLexByte},
		{"#tt", 0, api.ErrLexHash},
		{`#\spac`, 0, api.ErrLexHash},
		{`"a`, 0, api.ErrLexText},
		{`"\q"`, 0, api.ErrLexText},
		{"1152921504606846976", 0, api.ErrLexNumber},
		{"-1152921504606846977", 0, api.ErrLexNumber},
		{strings.Repeat("a", 65), 0, api.ErrLexName},
	} {
		wantWrong(t, m.s, 0, m.e)
		for _, ahead := range []string{"a ", "(a ", "(a . b) ", "'", "#("} {
			wantWrong(t, ahead+m.s, len(ahead), m.e)
		}
		// They come ahead of what is wrong in the tokens, though that stands ahead.
		for _, ahead := range []string{") ", "') ", ". ", "(a . b c ", strings.Repeat("(", 33), "(a . ) "} {
			wantWrong(t, ahead+m.s, len(ahead), m.e)
		}
	}
	for _, s := range []string{"a", ")", "(", "' ", "(a . b c"} {
		wantWrong(t, strings.Repeat(" ", 4097-len(s))+s, 0, api.ErrLexLong)
		wantWrong(t, s+strings.Repeat(" ", 4097-len(s)), 0, api.ErrLexLong)
	}
	for _, s := range []string{"()", "((", ")(", "''", "a'", ".'"} {
		for _, gap := range []string{"", " ", "; x\n"} {
			for _, more := range []string{"a", ")", ".", "'", "["} {
				wantWrong(t, strings.Repeat(s, 1024)+gap+more, 2048+len(gap), api.ErrLexMany)
			}
		}
	}
	wantWrong(t, strings.Repeat("[", 1<<24), 0, api.ErrLexLong)
}

// P4.1, several mistakes

func TestTheFirstThatCanNotFollowDecides(t *testing.T) {
	mistakes := []mistake{{") ", 0, api.ErrReadClose}, {"(') ", 2, api.ErrReadClose}, {"(a . ) ", 5, api.ErrReadClose}, {". ", 0, api.ErrReadDot}, {"( . a) ", 2, api.ErrReadDot}, {"(a . b c) ", 7, api.ErrReadDot}, {"#(a . b) ", 4, api.ErrReadDot}, {"'. ", 1, api.ErrReadDot}, {strings.Repeat("(", 33), 32, api.ErrReadDeep}, {strings.Repeat("'", 33) + "a ", 32, api.ErrReadDeep}}
	for _, a := range mistakes {
		for _, b := range mistakes {
			wantWrong(t, a.s+b.s, a.at, a.e)
			wantWrong(t, "a "+a.s+b.s, a.at+2, a.e)
			wantWrong(t, "a (b . c) "+a.s+b.s+"(", a.at+10, a.e)
		}
	}
}

func TestTooDeepAndMayNotFollow(t *testing.T) {
	within := strings.Repeat("(", 32)
	for _, deep := range []string{"(", "#(", "'", "'a", "(a)", "((("} {
		wantWrong(t, within+"a . b "+deep, 38, api.ErrReadDot)
		wantWrong(t, within+"a . b ; x\n"+deep, 42, api.ErrReadDot)
		wantWrong(t, within+"a . b c "+deep, 38, api.ErrReadDot)
		wantWrong(t, within+". "+deep, 32, api.ErrReadDot)
		wantWrong(t, within+"a . . "+deep, 36, api.ErrReadDot)
		wantWrong(t, within+"a . ) "+deep, 36, api.ErrReadClose)
		// Behind the dot it may follow, and behind that datum's bracket too.
		wantWrong(t, within+"a . "+deep, 36, api.ErrReadDeep)
		wantWrong(t, within[:31]+"(a . b) (a "+deep, 42, api.ErrReadDeep)
	}
	wantWrong(t, strings.Repeat("'", 32)+")", 32, api.ErrReadClose)
	wantWrong(t, strings.Repeat("'", 32)+".", 32, api.ErrReadDot)
	wantWrong(t, strings.Repeat("#(", 32)+"a . (", 66, api.ErrReadDot)
	wantWrong(t, strings.Repeat("(a . ", 32)+"b (", 162, api.ErrReadDot)
	wantWrong(t, strings.Repeat("(", 33)+strings.Repeat(")", 40), 32, api.ErrReadDeep)
	wantWrong(t, strings.Repeat("(", 2048), 32, api.ErrReadDeep)
}

func TestAWrongSourceKeepsNothing(t *testing.T) {
	for range 3 {
		wantWrong(t, "a b (c", 6, api.ErrReadEnd)
		wantData(t, "a", sym("a"))
		wantWrong(t, strings.Repeat("'", 40), 32, api.ErrReadDeep)
		wantData(t, strings.Repeat("'", 31)+"()", quoted(31, list()))
	}
}
