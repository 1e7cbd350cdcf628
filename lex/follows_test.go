package lex

import (
	"scrimshaw/api"
	"scrimshaw/data"
	"slices"
	"strings"
	"testing"
)

// P3.2

// sources are such as have tokens.
func sources() []string {
	out := []string{"", "a", `(define (f x) (if (< x 2) 1 (* x (f (- x 1))))) ; the end`, "'(1 \"two\" #(3 . 4))", "; x\n#\\a#\\(#\\space\t\"\\x41;\\\"\"#t'#f .", "#\\ #\\\n#\\;#\\\"#\\#(", strings.Repeat("a ", 2047), "\"\x00\xff\n\" #\\\xff\r-5;\xfe"}
	for _, a := range pieces() {
		for _, b := range pieces() {
			for _, s := range []string{a + b, a + " " + b, "(" + a + "\n" + b} {
				if _, _, e := Tokens(s); e == api.OK {
					out = append(out, s)
				}
			}
		}
	}
	return out
}

func TestPlacesLieInOrderAndApart(t *testing.T) {
	for _, s := range sources() {
		l, _, e := Tokens(s)
		if e != api.OK {
			t.Fatalf("%q: %v", s, e)
		}
		end := 0
		for _, x := range l {
			if x.At < end || x.End <= x.At || x.End > len(s) {
				t.Fatalf("%q: %q", s, told(l))
			}
			wantAll(t, s[end:x.At], nil)
			end = x.End
		}
		wantAll(t, s[end:], nil)
	}
}

func TestATokensBytesAreJustThatToken(t *testing.T) {
	for _, s := range sources() {
		l, _, _ := Tokens(s)
		for _, x := range l {
			wantOne(t, s[x.At:x.End], x)
		}
	}
}

func TestWhatIsGoneOverChangesPlacesAlone(t *testing.T) {
	for _, s := range sources() {
		l, _, _ := Tokens(s)
		for _, gap := range []string{" ", "\t\r\n", ";\n", "; x\n", ";(\"\n \n"} {
			if len(s)+len(gap) > api.MaxText {
				continue
			}
			for i, x := range l[:min(len(l), 8)] {
				wantAll(t, s[:x.At]+gap+s[x.At:], moved(l, i, len(gap)))
			}
			end := lastEnd(l)
			wantAll(t, s[:end]+gap+s[end:], l)
		}
	}
	wantWrong(t, strings.Repeat("a ", 2048)+" ", 0, api.ErrLexLong)
}

func lastEnd(l []api.Token) int {
	if len(l) == 0 {
		return 0
	}
	return l[len(l)-1].End
}

// moved are the tokens, those from i on further behind.
func moved(l []api.Token, i, far int) []api.Token {
	out := slices.Clone(l)
	for j := i; j < len(out); j++ {
		out[j].At += far
		out[j].End += far
	}
	return out
}

func TestADatumsTextIsOneToken(t *testing.T) {
	says := func(d api.Datum, want api.Token) {
		t.Helper()
		s, e := data.Text(d)
		if e != api.OK {
			t.Fatalf("%q: %v", d.Text, e)
		}
		wantOne(t, s, want)
	}
	for b := range 256 {
		says(api.Datum{Kind: api.DatChar, Int: b}, char(b))
		for c := range 256 {
			s := oneByte(b) + oneByte(c)
			says(api.Datum{Kind: api.DatString, Text: s}, str(s))
		}
	}
	for _, n := range []int{0, 1, -1, 9, 10, -10, 1 << 32, api.MaxInt, api.MaxInt - 1, -api.MaxInt, -api.MaxInt - 1} {
		says(api.Datum{Kind: api.DatInt, Int: n}, num(n))
	}
	for n := range 2 {
		says(api.Datum{Kind: api.DatBool, Int: n}, truth(n))
	}
	for _, s := range []string{"", "a b", `\`, `"`, `\n`, `\x41`, strings.Repeat("\xff", 1023), strings.Repeat("a", 4094)} {
		says(api.Datum{Kind: api.DatString, Text: s}, str(s))
	}
	for i := range len(nameBytes) {
		for j := range len(nameBytes) {
			s := nameBytes[i:i+1] + nameBytes[j:j+1]
			for _, name := range []string{s, s + "a", s + s, strings.Repeat(s, 32)} {
				if data.Name(name) {
					says(api.Datum{Kind: api.DatSymbol, Text: name}, sym(name))
				}
			}
		}
	}
}
