package data

import (
	"scrimshaw/api"
	"strconv"
	"strings"
	"testing"
)

// P2.2, of Text and Show

func TestTextsAndShows(t *testing.T) {
	for _, c := range []struct {
		d          api.Datum
		text, show string
	}{
		{boolean(0), "#f", "#f"},
		{boolean(1), "#t", "#t"},
		{number(0), "0", "0"},
		{number(-1), "-1", "-1"},
		{number(42), "42", "42"},
		{number(api.MaxInt), "1152921504606846975", "1152921504606846975"},
		{number(-api.MaxInt - 1), "-1152921504606846976", "-1152921504606846976"},
		{char(0), `#\x00`, "\x00"},
		{char(9), `#\x09`, "\t"},
		{char(10), `#\newline`, "\n"},
		{char(31), `#\x1f`, "\x1f"},
		{char(32), `#\space`, " "},
		{char(33), `#\!`, "!"},
		{char('a'), `#\a`, "a"},
		{char('x'), `#\x`, "x"},
		{char('('), `#\(`, "("},
		{char('\\'), `#\\`, `\`},
		{char('"'), `#\"`, `"`},
		{char(126), `#\~`, "~"},
		{char(127), `#\x7f`, "\x7f"},
		{char(128), `#\x80`, "\x80"},
		{char(200), `#\xc8`, "\xc8"},
		{char(255), `#\xff`, "\xff"},
		{str(""), `""`, ""},
		{str("a b"), `"a b"`, "a b"},
		{str("\""), `"\""`, "\""},
		{str(`\`), `"\\"`, `\`},
		{str("\n"), `"\n"`, "\n"},
		{str("\t\r\x00"), `"\x09\x0d\x00"`, "\t\r\x00"},
		{str(" ~\x7f\xff"), `" ~\x7f\xff"`, " ~\x7f\xff"},
		{str("ä"), `"\xc3\xa4"`, "ä"},
		{str("\xff\xfe"), `"\xff\xfe"`, "\xff\xfe"},
		{sym("a"), "a", "a"},
		{sym("1+"), "1+", "1+"},
		{sym("..."), "...", "..."},
		{list(), "()", "()"},
		{vector(), "#()", "#()"},
		{list(number(1)), "(1)", "(1)"},
		{list(number(1), number(-2), number(3)), "(1 -2 3)", "(1 -2 3)"},
		{vector(number(1)), "#(1)", "#(1)"},
		{vector(number(1), sym("a")), "#(1 a)", "#(1 a)"},
		{dotted(number(1), number(-2)), "(1 . -2)", "(1 . -2)"},
		{dotted(number(1), number(2), sym("z")), "(1 2 . z)", "(1 2 . z)"},
		{dotted(list(), vector()), "(() . #())", "(() . #())"},
		{dotted(list(str("a")), char('a'), str("\n")), `(("a") #\a . "\n")`, "((a) a . \n)"},
		{dotted(dotted(number(1), number(2)), number(3)), "((1 . 2) . 3)", "((1 . 2) . 3)"},
		{list(sym("a"), str(`b"`), char(32)), `(a "b\"" #\space)`, `(a b"  )`},
		{vector(list(), boolean(1), char(200)), `#(() #t #\xc8)`, "#(() #t \xc8)"},
		{list(vector(str("x"), list(char('y'))), str("")), `(#("x" (#\y)) "")`, "(#(x (y)) )"},
		{list(sym("quote"), sym("a")), "(quote a)", "(quote a)"},
		{nested(32, number(1)), strings.Repeat("(", 32) + "1" + strings.Repeat(")", 32), strings.Repeat("(", 32) + "1" + strings.Repeat(")", 32)},
	} {
		if s, e := Text(c.d); s != c.text || e != api.OK {
			t.Errorf("Text(%s): %q, %v, want %q", raw(c.d), s, e, c.text)
		}
		if s, e := Show(c.d); s != c.show || e != api.OK {
			t.Errorf("Show(%s): %q, %v, want %q", raw(c.d), s, e, c.show)
		}
	}
}

func TestTextOfEachByte(t *testing.T) {
	for b := range 256 {
		own := string([]byte{byte(b)})
		hex := "x" + strconv.FormatInt(int64(b)+256, 16)[1:]
		inChar, inString := own, own
		if b < 32 || b > 126 {
			inChar, inString = hex, `\`+hex
		}
		switch b {
		case 10:
			inChar, inString = "newline", `\n`
		case 32:
			inChar = "space"
		case '"', '\\':
			inString = `\` + own
		}
		for _, c := range []struct {
			d    api.Datum
			text string
		}{
			{char(b), `#\` + inChar},
			{str(own), `"` + inString + `"`},
			{str("a" + own + own + "b"), `"a` + inString + inString + `b"`},
		} {
			if s, e := Text(c.d); s != c.text || e != api.OK {
				t.Errorf("Text(%s): %q, %v, want %q", raw(c.d), s, e, c.text)
			}
		}
		for _, d := range row(char(b), str(own)) {
			if s, e := Show(d); s != own || e != api.OK {
				t.Errorf("Show(%s): %q, %v", raw(d), s, e)
			}
			if s, e := Show(list(d, vector(d))); s != "("+own+" #("+own+"))" || e != api.OK {
				t.Errorf("Show of %s within others: %q, %v", raw(d), s, e)
			}
		}
	}
}

func TestTextsOfTheGreatest(t *testing.T) {
	many := make([]api.Datum, 4095)
	for i := range many {
		many[i] = number(i % 10)
	}
	s, e := Text(list(many...))
	if len(s) != 2*4095+1 || e != api.OK || !strings.HasPrefix(s, "(0 1 2 ") || !strings.HasSuffix(s, " 3 4)") {
		t.Error(len(s), e)
	}
	s, e = Text(str(strings.Repeat("\xff", 4096)))
	if s != `"`+strings.Repeat(`\xff`, 4096)+`"` || e != api.OK {
		t.Error(len(s), e)
	}
	s, e = Show(str(strings.Repeat("\xff", 4096)))
	if s != strings.Repeat("\xff", 4096) || e != api.OK {
		t.Error(len(s), e)
	}
}

func TestTextsOfWhatMayNotBe(t *testing.T) {
	for _, odd := range oddData() {
		for _, d := range row(odd, list(number(1), odd), vector(odd), dotted(odd, number(1))) {
			want := Check(d)
			if want == api.OK {
				t.Errorf("%s: OK", raw(d))
			}
			if s, e := Text(d); s != "" || e != want {
				t.Errorf("Text(%s): %q, %v, want %v", raw(d), s, e, want)
			}
			if s, e := Show(d); s != "" || e != want {
				t.Errorf("Show(%s): %q, %v, want %v", raw(d), s, e, want)
			}
		}
	}
	for _, c := range []struct {
		d    api.Datum
		want api.Errno
	}{
		{withText(number(1)), api.ErrDataForm},
		{nested(33, number(1)), api.ErrDataDeep},
		{list(make([]api.Datum, 4096)...), api.ErrDataMany},
	} {
		if s, e := Text(c.d); s != "" || e != c.want {
			t.Errorf("Text: %q, %v, want %v", s, e, c.want)
		}
		if s, e := Show(c.d); s != "" || e != c.want {
			t.Errorf("Show: %q, %v, want %v", s, e, c.want)
		}
	}
}

// P2.4, of texts

func textOf(t *testing.T, d api.Datum) string {
	t.Helper()
	s, e := Text(d)
	if e != api.OK {
		t.Fatalf("Text(%s): %v", raw(d), e)
	}
	return s
}

func TestTextsAreTheSameJustIfTheDataAre(t *testing.T) {
	seen := map[string]api.Datum{}
	for _, d := range someData() {
		s := textOf(t, d)
		if other, is := seen[s]; is && raw(other) != raw(d) {
			t.Errorf("%s and %s: %q", raw(other), raw(d), s)
		}
		seen[s] = d
	}
	texts := map[string]int{}
	for n := range 1 << 16 {
		s := textOf(t, str(string([]byte{byte(n >> 8), byte(n)})))
		if other, is := texts[s]; is {
			t.Errorf("the strings of %x and %x: %q", other, n, s)
		}
		texts[s] = n
	}
}

func TestTextOfAListBeginsWithItsFirstItems(t *testing.T) {
	for _, d := range someData() {
		if d.Kind != api.DatList && d.Kind != api.DatVector {
			continue
		}
		s := textOf(t, d)
		for n := range len(d.List) + 1 {
			first := textOf(t, api.Datum{Kind: d.Kind, List: d.List[:n]})
			if !strings.HasPrefix(s, strings.TrimSuffix(first, ")")) {
				t.Errorf("%q does not begin with %q", s, first)
			}
		}
	}
}

func TestTextsChangeNothing(t *testing.T) {
	for _, d := range append(someData()[:200], oddData()...) {
		before := raw(d)
		Check(d)
		Text(d)
		Show(d)
		Equal(d, d)
		if raw(d) != before {
			t.Errorf("%s became %s", before, raw(d))
		}
	}
}
