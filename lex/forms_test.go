package lex

import (
	"scrimshaw/api"
	"strconv"
	"strings"
	"testing"
)

// P3.1, truths

func TestTruths(t *testing.T) {
	wantOne(t, "#t", truth(1))
	wantOne(t, "#f", truth(0))
	wantTokens(t, []string{"", "#t", "", "(", "", "#f", "", ")", "", "#t", "", "'", "", "#f", "", "#t", ";", "", ""}, truth(1), open(), truth(0), shut(), truth(1), quote(), truth(0), truth(1))
	for b := range 256 {
		for i, s := range []string{"#f", "#t"} {
			got, at, e := Tokens(s + oneByte(b) + " ")
			if isName(b) {
				wantWrong(t, s+oneByte(b), 0, api.ErrLexHash)
				wantWrong(t, "a "+s+oneByte(b)+"a", 2, api.ErrLexHash)
			} else if e == api.OK && (len(got) == 0 || got[0] != placed(truth(i), 0, 2)) {
				t.Errorf("%q and the byte %d: %q", s, b, told(got))
			} else if e != api.OK && at != 2 {
				t.Errorf("%q and the byte %d: %d, %v", s, b, at, e)
			}
		}
	}
	for _, s := range []string{"#true", "#false", "#tt", "#ff", "#tf", "#t1", "#f.", "#t-", "#T", "#F"} {
		wantWrong(t, s, 0, api.ErrLexHash)
	}
}

func TestEachByteBehindAHash(t *testing.T) {
	for b := range 256 {
		s := "#" + oneByte(b)
		switch b {
		case '(':
			wantOne(t, s, vector())
		case 't':
			wantOne(t, s, truth(1))
		case 'f':
			wantOne(t, s, truth(0))
		case '\\':
			wantWrong(t, s, 0, api.ErrLexHash)
			wantWrong(t, " a"+s, 2, api.ErrLexHash)
		default:
			wantWrong(t, s, 0, api.ErrLexHash)
			wantWrong(t, s+"t", 0, api.ErrLexHash)
			wantWrong(t, " a"+s+" ", 2, api.ErrLexHash)
		}
	}
}

// P3.1, characters

func TestEachByteAsACharacter(t *testing.T) {
	for b := range 256 {
		s := `#\` + oneByte(b)
		wantOne(t, s, char(b))
		wantTokens(t, []string{" ", s, " ", "(", ""}, char(b), open())
		wantTokens(t, []string{"", s, "", ")", ""}, char(b), shut())
		wantTokens(t, []string{"", s, "", s, "", `"a"`, ""}, char(b), char(b), str("a"))
		if isName(b) {
			wantWrong(t, s+"a", 0, api.ErrLexHash)
			wantWrong(t, s+s[2:], 0, api.ErrLexHash)
			wantWrong(t, s+"41a", 0, api.ErrLexHash)
		} else {
			wantTokens(t, []string{"", s, "", "a", ""}, char(b), sym("a"))
			wantTokens(t, []string{"", s, "", "space", " "}, char(b), sym("space"))
			wantTokens(t, []string{"", s, "", "x41", ";"}, char(b), sym("x41"))
		}
	}
}

func TestCharactersByName(t *testing.T) {
	wantOne(t, `#\space`, char(32))
	wantOne(t, `#\newline`, char(10))
	wantTokens(t, []string{"", `#\space`, "", "(", "", `#\newline`, "", `#\a`, " ", `#\x41`, "", ")", ""}, char(32), open(), char(10), char('a'), char(65), shut())
	wantTokens(t, []string{"", `#\a`, " ", `#\space`, " ", `#\x41`, " ", `#\(`, " ", `"\x41\n"`, ""}, char(97), char(32), char(65), char(40), str("A\n"))
	for _, name := range []string{"spac", "spaces", "Space", "SPACE", "space.", "newlin", "newlines", "Newline", "tab", "nul", "aa", "12", "..", "sp", "xx", "x4", "x412", "x4g", "xg4", "x.4", "x-4", "x+4", "x_4", "X41", "x0x", "0x41", "41", "x41x", "x041", "x000041"} {
		wantWrong(t, `#\`+name, 0, api.ErrLexHash)
		wantWrong(t, `( #\`+name+")", 2, api.ErrLexHash)
	}
	wantWrong(t, `#\`, 0, api.ErrLexHash)
	wantWrong(t, `ab #\`, 3, api.ErrLexHash)
	wantWrong(t, `#\`+strings.Repeat("a", 4094), 0, api.ErrLexHash)
}

func TestCharactersByNumber(t *testing.T) {
	for b := range 256 {
		for _, digits := range hexes(b) {
			wantOne(t, `#\x`+digits, char(b))
			wantTokens(t, []string{" ", `#\x` + digits, "", "(", ""}, char(b), open())
			wantWrong(t, `#\x`+digits+"0", 0, api.ErrLexHash)
			wantWrong(t, `#\X`+digits, 0, api.ErrLexHash)
		}
	}
	for a := range 256 {
		if isHex(a) {
			continue
		}
		for _, digits := range []string{oneByte(a) + "4", "4" + oneByte(a)} {
			if isName(a) {
				wantWrong(t, `#\x`+digits, 0, api.ErrLexHash)
			} else if got, _, e := Tokens(`#\x` + digits); e == api.OK && len(got) == 1 && got[0].End == 5 {
				t.Errorf("%q: %q", `#\x`+digits, told(got))
			}
		}
	}
	wantTokens(t, []string{"", `#\x`, "", "(", "", `#\x`, " ", "41", ""}, char('x'), open(), char('x'), num(41))
}

// hexes are the ways to write a byte in two digits.
func hexes(b int) []string {
	small := strconv.FormatInt(int64(b)+256, 16)[1:]
	great := strings.ToUpper(small)
	return []string{small, great, small[:1] + great[1:], great[:1] + small[1:]}
}

func isHex(b int) bool { return strings.IndexByte("0123456789abcdefABCDEF", byte(b)) >= 0 }

// P3.1, strings

func TestEachByteInAString(t *testing.T) {
	for b := range 256 {
		s := oneByte(b)
		switch s {
		case `"`:
			wantWrong(t, `"`+s+`"`, 2, api.ErrLexText)
			wantTokens(t, []string{"", `""`, "", `""`, ""}, str(""), str(""))
		case `\`:
			wantWrong(t, `"`+s+`"`, 0, api.ErrLexText)
		default:
			wantOne(t, `"`+s+`"`, str(s))
			wantOne(t, `"a`+s+s+`b"`, str("a"+s+s+"b"))
			wantTokens(t, []string{" ", `"` + s + `"`, "", "a", ""}, str(s), sym("a"))
		}
		if s != `"` {
			wantWrong(t, `"`+s, 0, api.ErrLexText)
			wantWrong(t, `a "b`+s, 2, api.ErrLexText)
		}
	}
}

func TestEachByteBehindABackslash(t *testing.T) {
	meant := map[int]string{'"': `"`, '\\': `\`, 'n': "\n"}
	for b := range 256 {
		s := `\` + oneByte(b)
		if want, is := meant[b]; is {
			wantOne(t, `"`+s+`"`, str(want))
			wantOne(t, `"a`+s+s+`b"`, str("a"+want+want+"b"))
			wantOne(t, `"`+s+`n"`, str(want+"n"))
		} else {
			wantWrong(t, `"`+s+`"`, 0, api.ErrLexText)
			wantWrong(t, `(  "a`+s+`b" "`, 3, api.ErrLexText)
		}
		wantWrong(t, `"`+s, 0, api.ErrLexText)
	}
}

func TestBytesInAStringByNumber(t *testing.T) {
	for b := range 256 {
		for _, digits := range hexes(b) {
			wantOne(t, `"\x`+digits+`"`, str(oneByte(b)))
			wantOne(t, `"a\x`+digits+`0"`, str("a"+oneByte(b)+"0"))
			wantOne(t, `"\x`+digits+`\x`+digits+`"`, str(oneByte(b)+oneByte(b)))
			wantWrong(t, `"\X`+digits+`"`, 0, api.ErrLexText)
		}
		if isHex(b) {
			continue
		}
		for _, digits := range []string{oneByte(b) + "4", "4" + oneByte(b), oneByte(b) + oneByte(b)} {
			wantWrong(t, `"\x`+digits+`"`, 0, api.ErrLexText)
			wantWrong(t, `5 "a\x`+digits+`"`, 2, api.ErrLexText)
		}
	}
}

func TestStrings(t *testing.T) {
	wantOne(t, `""`, str(""))
	wantOne(t, `"(a . 'b) ; #t"`, str("(a . 'b) ; #t"))
	wantOne(t, "\"a\nb\r\t\"", str("a\nb\r\t"))
	wantOne(t, `"\\n"`, str(`\n`))
	wantOne(t, `"\\\\"`, str(`\\`))
	wantOne(t, `"\\\""`, str(`\"`))
	wantOne(t, `"\x5cn"`, str(`\n`))
	wantOne(t, `"\x22"`, str(`"`))
	wantTokens(t, []string{"", `"a"`, "", `"b"`, " ", `"c"`, ";", "", ""}, str("a"), str("b"), str("c"))
	for _, s := range []string{`"`, `"a`, `"\`, `"\"`, `"\\\"`, `"\x`, `"\x4`, `"\x41`, `"\x"`, `"\x4"`, `"\x "`, `"\n`, `"\q"`, `"\N"`, `"\t"`, `"\x+4"`, `"\x-4"`, `"\x_4"`, `"\x0x"`, `"a;` + "\n", `"` + strings.Repeat("a", 4095)} {
		wantWrong(t, s, 0, api.ErrLexText)
	}
	wantWrong(t, `"a" "b`, 4, api.ErrLexText)
	wantWrong(t, `"a""`, 3, api.ErrLexText)
	wantWrong(t, `"\q" [`, 0, api.ErrLexText)
}

// P3.1, words

func TestNumbers(t *testing.T) {
	for s, n := range map[string]int{"0": 0, "-0": 0, "+0": 0, "5": 5, "+5": 5, "-5": -5, "00": 0, "007": 7, "-007": -7, "+10": 10, "08": 8, "010": 10, "1234567890": 1234567890,
		"1152921504606846975": 1<<60 - 1, "+1152921504606846975": 1<<60 - 1, "-1152921504606846975": 1 - 1<<60, "-1152921504606846976": -1 << 60, "-000001152921504606846976": -1 << 60,
		strings.Repeat("0", 500) + "1": 1, "-" + strings.Repeat("0", 500) + "1152921504606846976": -1 << 60, "+" + strings.Repeat("0", 4094) + "9": 9} {
		wantOne(t, s, num(n))
		if len(s) < 4090 {
			wantTokens(t, []string{"", "(", " ", s, "", ")", ""}, open(), num(n), shut())
		}
	}
	for _, s := range []string{"1152921504606846976", "+1152921504606846976", "-1152921504606846977", "0001152921504606846976", "1152921504606846980", "9223372036854775807", "9223372036854775808", "-9223372036854775808", "-9223372036854775809", "18446744073709551615", "18446744073709551616", "18446744073709551621", "-18446744073709551621", strings.Repeat("9", 300), "-" + strings.Repeat("9", 300), "1" + strings.Repeat("0", 4095), strings.Repeat("0", 400) + "1152921504606846976"} {
		wantWrong(t, s, 0, api.ErrLexNumber)
		if len(s) < 4090 {
			wantWrong(t, "a ("+s+")", 3, api.ErrLexNumber)
		}
	}
}

func TestSymbolsAndDots(t *testing.T) {
	for _, s := range []string{"a", "Z", "-", "+", "++", "+-", "--5", "-+5", "+5a", "1+", "5-", "1-1", "-5.", "1.5", "..", "...", ".5", "5.", "+.", "-.", "@", "!", "1/2", "1e3", "0x1", "1_0", "x41", "t", "f", "space", "call/cc", "set!", "<=?", "~a", "%box", nameBytes[:64], nameBytes[62:]} {
		wantOne(t, s, sym(s))
		wantTokens(t, []string{"", "'", "", s, "", "(", "", s, "\n", s, ";"}, quote(), sym(s), open(), sym(s), sym(s))
	}
	wantOne(t, ".", dot())
	wantTokens(t, []string{"", "(", "", ".", "", ")", "", ".", " ", ".", " ", "..", ""}, open(), dot(), shut(), dot(), dot(), sym(".."))
	wantTokens(t, []string{"", "-5", " ", "+5", " ", "-", " ", "1+", " ", "..", " "}, num(-5), num(5), sym("-"), sym("1+"), sym(".."))
}

func TestSymbolsOfEachLength(t *testing.T) {
	for n := 1; n < 300; n++ {
		for _, s := range []string{strings.Repeat("a", n), strings.Repeat("+", n), strings.Repeat("9", n-1) + "a", "-" + strings.Repeat("9", n-1) + "."} {
			if len(s) <= 64 {
				wantOne(t, s, sym(s))
			} else {
				wantWrong(t, s, 0, api.ErrLexName)
				wantWrong(t, "( "+s+" [", 2, api.ErrLexName)
			}
		}
	}
	wantWrong(t, strings.Repeat("a", 4096), 0, api.ErrLexName)
	wantWrong(t, strings.Repeat(".", 65), 0, api.ErrLexName)
	wantOne(t, strings.Repeat(".", 64), sym(strings.Repeat(".", 64)))
}
