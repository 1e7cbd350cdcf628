package read

import (
	"scrimshaw/api"
	"scrimshaw/data"
	"slices"
	"strings"
	"testing"
)

// P4.3

// someData are data that may be, of every kind.
func someData() []api.Datum {
	out := row(boolean(0), boolean(1), str(""), str("a b"), str("(a . 'b)"), str(`\`), str(`"`), str("\\n"), str(";x\n"), list(), vector(), sym("quote"), list(sym("quote")), quote(sym("a")), list(sym("quote"), sym("a"), sym("b")), dotted(sym("quote"), sym("a")), dotted(sym("a"), sym("quote"), sym("b")),
		nested(32, sym("a")), nested(31, list()), nested(31, vector()), nested(31, dotted(sym("a"), sym("b"))), quoted(32, sym("a")), str(strings.Repeat("a", 4093)), str(strings.Repeat("\xff", 1023)), list(rowOf(number(1), 2000)...), dotted(rowOf(number(1), 2000)...))
	for _, n := range []int{0, 1, -1, 9, 10, -10, 1 << 32, api.MaxInt, api.MaxInt - 1, -api.MaxInt, -api.MaxInt - 1} {
		out = append(out, number(n))
	}
	for _, s := range []string{"a", "-", "+", "...", "..", "1+", "-a", "+.", ".5", "t", "x41", "a.b", "@", strings.Repeat("a", 64), "!$%&*/:<=>?^_~+-.@"} {
		out = append(out, sym(s))
	}
	for b := range 256 {
		out = append(out, char(b), str(oneByte(b)), str("x"+oneByte(b)+"41"), list(char(b), char('x')), vector(str(oneByte(b)), sym("a")))
	}
	few := row(number(-1), sym("a"), str("a"), char('('), boolean(1), list(), vector(), list(sym("a")), dotted(sym("a"), number(1)), vector(sym("a")), quote(sym("a")), dotted(sym("a"), vector(list())))
	for _, a := range few {
		out = append(out, list(a), vector(a), quote(a), list(list(a)), vector(list(a)))
		for _, b := range few {
			out = append(out, list(a, b), vector(a, b), list(a, list(b)))
			if b.Kind != api.DatList && b.Kind != api.DatDotted {
				out = append(out, dotted(a, b), dotted(a, a, b), list(dotted(a, b), a))
			}
		}
	}
	return out
}

func TestDataOfTheTests(t *testing.T) {
	for _, d := range someData() {
		if e := data.Check(d); e != api.OK {
			t.Errorf("%s: %v", raw(d), e)
		}
	}
}

func TestWrittenAndRead(t *testing.T) {
	back := func(l ...api.Datum) {
		t.Helper()
		s, e := Write(l)
		if e != api.OK {
			t.Fatalf("%s: %v", rawRow(l), e)
		}
		wantData(t, s, l...)
	}
	back()
	for _, d := range someData() {
		back(d)
	}
	small := slices.DeleteFunc(someData(), func(d api.Datum) bool { return len(raw(d)) > 1000 })
	for i := range len(small) - 3 {
		back(small[i : i+3]...)
	}
	for i := 0; i+40 < len(small); i += 40 {
		back(small[i : i+40]...)
	}
	back(slices.Repeat(row(list()), 1024)...)
}

func TestWrittenAndTooLong(t *testing.T) {
	for n := 4090; n <= 4096; n++ {
		l := row(str(strings.Repeat("a", n)))
		s, e := Write(l)
		if len(s) != n+3 || e != api.OK {
			t.Errorf("%d bytes: %d, %v", n, len(s), e)
		}
		if n <= 4093 {
			wantData(t, s, l...)
		} else {
			wantWrong(t, s, 0, api.ErrLexLong)
		}
	}
	s, _ := Write(rowOf(list(), 1025))
	wantWrong(t, s, 3*1024, api.ErrLexMany)
}

// readSources are sources that can be read.
func readSources() []string {
	out := []string{"", "; x", "(a . (b . c)) 'x #(1 \"s\")", "(a . (b c))", "(a . ())", "(a . 'b)", "(a . ''(b . c))", strings.Repeat("(a . ", 32) + "b" + strings.Repeat(")", 32), strings.Repeat("'", 32) + "a", strings.Repeat("#(", 32) + strings.Repeat(")", 32),
		"(define (f x) (if (< x 2) 1 (* x (f (- x 1))))) ; the end", `'(1 "two" #(3 4)) #\x41 #\space "\x0A"`, "\"\x00\xff\n\" #\\\xff\r-5;\xfe", "007 +5 -0", "\"" + strings.Repeat("\xff", 4094) + "\"",
		strings.Repeat("a ", 2048), "(" + strings.Repeat(strings.Repeat("'", 31)+"a ", 63) + ")", strings.Repeat(strings.Repeat("'", 31)+"a ", 64), strings.Repeat("()", 1024), "(" + strings.Repeat("()", 1023) + ")", "(a . (" + strings.Repeat("b ", 2041) + "))"}
	for _, s := range grownSources() {
		if _, _, e := Read(s); e == api.OK {
			out = append(out, s)
		}
	}
	return out
}

func TestWhatIsReadMayBe(t *testing.T) {
	for _, s := range readSources() {
		l, _, e := Read(s)
		if e != api.OK {
			t.Fatalf("Read(%.300q): %v", s, e)
		}
		for _, d := range l {
			if e := data.Check(d); e != api.OK {
				t.Fatalf("Read(%.300q): %v of %.300s", s, e, raw(d))
			}
		}
	}
}

func TestReadAndWrittenAndRead(t *testing.T) {
	long := 0
	for _, s := range readSources() {
		l, _, _ := Read(s)
		text, e := Write(l)
		if e != api.OK {
			t.Fatalf("Read(%.300q): %v", s, e)
		}
		if len(text) > api.MaxText {
			long++
			wantWrong(t, text, 0, api.ErrLexLong)
			continue
		}
		wantData(t, text, l...)
		if again, _ := Write(l); again != text {
			t.Errorf("%.300q, then %.300q", text, again)
		}
	}
	if long == 0 {
		t.Error("no source of which too much is written")
	}
}
