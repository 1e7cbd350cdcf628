package lex

import (
	"math/rand"
	"scrimshaw/api"
	"slices"
	"strings"
	"testing"
)

// P3.1, what is gone over, and sizes

func TestSourcesWithoutTokens(t *testing.T) {
	for _, s := range []string{"", " ", "\t", "\n", "\r", " \t\r\n ", ";", "; x", ";;", ";\n", "; ( \" #q [\n", "; x\n; y", "; x\r; y", "; x\n \n;", ";\xff\x00\n", strings.Repeat(" ", 4096), strings.Repeat(";", 4096), strings.Repeat("\n", 4096), strings.Repeat(";\n", 2048)} {
		wantAll(t, s, nil)
	}
}

func TestWhatIsGoneOver(t *testing.T) {
	for _, gap := range []string{" ", "\t", "\n", "\r", "\r\n", "  ", ";\n", ";; (a\n", "; x\n;\n\t", " ; #\n ; \"\n", ";\r\n"} {
		wantTokens(t, []string{gap, "a", gap, "5", gap, "(", gap, "#t", gap, `"a"`, gap}, sym("a"), num(5), open(), truth(1), str("a"))
	}
	wantTokens(t, []string{"", "a", ";b\n", "c", "; d"}, sym("a"), sym("c"))
	wantTokens(t, []string{"", "a", ";b\rc"}, sym("a"))
	wantTokens(t, []string{"", "a", ";"}, sym("a"))
	wantTokens(t, []string{"", `";"`, "", "a", ";\""}, str(";"), sym("a"))
	wantWrong(t, "; x\n[", 4, api.ErrLexByte)
	wantWrong(t, "; x\r\n \t[", 7, api.ErrLexByte)
}

func TestSourcesOfEachLength(t *testing.T) {
	wantAll(t, strings.Repeat(" ", 4095)+"a", []api.Token{placed(sym("a"), 4095, 4096)})
	wantOne(t, `"`+strings.Repeat("a", 4094)+`"`, str(strings.Repeat("a", 4094)))
	wantOne(t, strings.Repeat("0", 4096), num(0))
	for _, s := range []string{strings.Repeat(" ", 4097), strings.Repeat("(", 4097), strings.Repeat("[", 4097), ";" + strings.Repeat("a", 4096), `"` + strings.Repeat("a", 4096), "#" + strings.Repeat(" ", 4096), strings.Repeat("5", 4097), strings.Repeat("a", 4097), strings.Repeat("\xff", 1<<24)} {
		wantWrong(t, s, 0, api.ErrLexLong)
	}
}

func TestTokensOfEachNumber(t *testing.T) {
	for _, piece := range []struct {
		s    string
		want api.Token
	}{{"(", open()}, {")", shut()}, {"'", quote()}, {"a ", sym("a")}, {"5\n", num(5)}, {". ", dot()}, {"#(", vector()}, {"#t", truth(1)}, {`""`, str("")}} {
		var want []api.Token
		for i := range 2048 {
			at := i * len(piece.s)
			want = append(want, placed(piece.want, at, at+len(strings.TrimSpace(piece.s))))
		}
		wantAll(t, strings.Repeat(piece.s, 2048), want)
		wantAll(t, strings.Repeat(piece.s, 2047), want[:2047])
		wantAll(t, strings.Repeat(piece.s, 1), want[:1])
	}
	most := strings.Repeat("(", 2048)
	for _, gap := range []string{"", " ", " ; x\n", strings.Repeat("\n", 2046)} {
		if got, at, e := Tokens(most + gap); len(got) != 2048 || at != 0 || e != api.OK {
			t.Errorf("2048 and a gap: %d, %d, %v", len(got), at, e)
		}
		for _, more := range []string{"(", ")", "a", "5", ".", "#t", `"`, "#", "[", "\xff"} {
			wantWrong(t, most+gap+more, 2048+len(gap), api.ErrLexMany)
		}
	}
	wantWrong(t, strings.Repeat("(", 4096), 2048, api.ErrLexMany)
}

// P3.1, where a token begins

func TestEachByteWhereATokenMayBegin(t *testing.T) {
	plain := map[int]api.Token{'(': open(), ')': shut(), '\'': quote(), '.': dot()}
	for b := range 256 {
		s := oneByte(b)
		want, is := plain[b]
		switch {
		case is:
			wantOne(t, s, want)
			wantTokens(t, []string{" ", s, " ", "(", ""}, want, open())
		case '0' <= b && b <= '9':
			wantOne(t, s, num(b-'0'))
		case isName(b):
			wantOne(t, s, sym(s))
		case strings.Contains("\t\n\r ;", s):
			wantAll(t, s, nil)
		case s == "#":
			wantWrong(t, s, 0, api.ErrLexHash)
		case s == `"`:
			wantWrong(t, s, 0, api.ErrLexText)
		default:
			for _, behind := range []string{"", " ", "a", "(", s} {
				wantWrong(t, s+behind, 0, api.ErrLexByte)
				wantWrong(t, "a 5"+s+behind, 3, api.ErrLexByte)
				wantWrong(t, "(\n"+s+behind, 2, api.ErrLexByte)
			}
		}
	}
}

func TestTokensSideBySide(t *testing.T) {
	wantTokens(t, []string{"", "(", "", "a", " ", "'", "", "b", " ", ".", " ", "#t", "", ")", " ; x"}, open(), sym("a"), quote(), sym("b"), dot(), truth(1), shut())
	wantTokens(t, []string{"", "a", "", "'", "", "b", "", "(", "", "c", "", `"d"`, "", "e", "", "#(", "", "5", "", ")", "", "#f", "", "#t", "", `#\a`, "", `#\(`, "", ".", "", `""`, "", ".."},
		sym("a"), quote(), sym("b"), open(), sym("c"), str("d"), sym("e"), vector(), num(5), shut(), truth(0), truth(1), char('a'), char('('), dot(), str(""), sym(".."))
	wantTokens(t, []string{"", "'", "", "'", "", "#(", "", "#(", "", ")", "", ")"}, quote(), quote(), vector(), vector(), shut(), shut())
	wantWrong(t, "a#", 1, api.ErrLexHash)
	wantWrong(t, "a[", 1, api.ErrLexByte)
	wantWrong(t, "a,b", 1, api.ErrLexByte)
	wantWrong(t, `a\b`, 1, api.ErrLexByte)
}

// P3.1, several errors

func TestTheFirstThatIsWrongDecides(t *testing.T) {
	long, great := strings.Repeat("a", 65), "1152921504606846976"
	wrong := []struct {
		s string
		e api.Errno
	}{{"[", api.ErrLexByte}, {"#q", api.ErrLexHash}, {`"\q"`, api.ErrLexText}, {great, api.ErrLexNumber}, {long, api.ErrLexName}, {"\xff", api.ErrLexByte}, {"#tt", api.ErrLexHash}, {`#\spac`, api.ErrLexHash}}
	for _, a := range wrong {
		wantWrong(t, a.s, 0, a.e)
		wantWrong(t, "ab "+a.s, 3, a.e)
		wantWrong(t, ";;\n#(5\t"+a.s, 7, a.e)
		for _, b := range wrong {
			wantWrong(t, a.s+" "+b.s, 0, a.e)
			wantWrong(t, " x ; "+b.s+"\n"+a.s+" "+b.s, 6+len(b.s), a.e)
		}
		wantWrong(t, strings.Repeat("(", 2048)+a.s, 2048, api.ErrLexMany)
		wantWrong(t, strings.Repeat("(", 2047)+a.s, 2047, a.e)
		wantWrong(t, a.s+" "+strings.Repeat("(", 3000), 0, a.e)
		wantWrong(t, a.s+strings.Repeat(" ", 4097), 0, api.ErrLexLong)
	}
	wantWrong(t, "-5 +5 - 1+ .. "+great, 14, api.ErrLexNumber)
	wantWrong(t, "a  #tt", 3, api.ErrLexHash)
}

// P3.1, held against the table as patterns tell it

func TestAllShortSources(t *testing.T) {
	const bytes = "()'#\\\"; \ntfx+-.14an[|"
	var try func(s string, more int)
	try = func(s string, more int) {
		wantPatterned(t, s)
		for i := range len(bytes) {
			if more > 0 {
				try(s+bytes[i:i+1], more-1)
			}
		}
	}
	try("", 4)
}

func pieces() []string {
	return []string{"(", ")", "'", "#(", "#", "#t", "#f", "#T", "t", "f", ".", "..", "-", "+", "-5", "+5", "5", "007", "1+", "a", "x41", "space", "newline", "set!", " ", "\n", "\t", "\r", ";", "; x\n", `#\`, `#\a`, `#\x`, `#\x4`, `#\x41`, `#\xFf`, `#\x411`, `#\space`, `#\newline`, `#\spac`, `#\(`, `#\"`, `#\;`, `"`, `\"`, `""`, `"a"`, `"\x41\n"`, `\`, `\n`, `\x`, `\x4`, `\x4G`, "[", "\x00", "\x7f", "1152921504606846975", "1152921504606846976", "-1152921504606846976", "-1152921504606846977"}
}

func TestPiecesPutTogether(t *testing.T) {
	for _, a := range pieces() {
		for _, b := range pieces() {
			for _, c := range append(pieces(), "") {
				wantPatterned(t, a+b+c)
			}
		}
	}
	all, chance := append(pieces(), " ", " ", "a ", "(b ", ") ", "#f ", `"c" `), rand.New(rand.NewSource(3))
	for range 100000 {
		var s strings.Builder
		for range chance.Intn(12) {
			s.WriteString(all[chance.Intn(len(all))])
		}
		wantPatterned(t, s.String())
	}
}

func wantPatterned(t *testing.T, s string) {
	t.Helper()
	want, wantAt, wantE := patterned(s)
	if got, at, e := Tokens(s); !slices.Equal(got, want) || at != wantAt || e != wantE {
		t.Errorf("Tokens(%q): %q, %d, %v; want %q, %d, %v", s, told(got), at, e, told(want), wantAt, wantE)
	}
}

// R3, R4: an answer is its own

func TestAnswersAreTheirOwn(t *testing.T) {
	const s = `(a "b" 5 #\c)`
	one, _, _ := Tokens(s)
	two, _, _ := Tokens(s)
	before := told(two)
	for i := range one[:cap(one)] {
		one[:cap(one)][i] = sym("spoilt")
	}
	three, _, _ := Tokens(s)
	if told(two) != before || told(three) != before {
		t.Error(told(two), told(three))
	}
}
