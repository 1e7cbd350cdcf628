package read

import (
	"math/rand"
	"scrimshaw/api"
	"slices"
	"strings"
	"testing"
)

// P4.1, sources that are read

func TestSourcesWithoutData(t *testing.T) {
	for _, s := range []string{"", " ", "\t\r\n ", ";", "; (a . b", ";\n", "; x\n; y\n", " ; )\n\t;'\r", strings.Repeat(" ", 4096), strings.Repeat(";", 4096), strings.Repeat(";\n", 2048)} {
		wantData(t, s)
	}
}

func TestDataOfOneToken(t *testing.T) {
	for s, want := range map[string]api.Datum{
		"#t": boolean(1), "#f": boolean(0),
		"0": number(0), "5": number(5), "-5": number(-5), "+5": number(5), "007": number(7), "-0": number(0), "1152921504606846975": number(api.MaxInt), "-1152921504606846976": number(-api.MaxInt - 1),
		`#\a`: char('a'), `#\space`: char(32), `#\newline`: char(10), `#\x00`: char(0), `#\xFf`: char(255), `#\(`: char('('), `#\'`: char('\''), `#\.`: char('.'),
		`""`: str(""), `"a b"`: str("a b"), `"\"\\\n\x41"`: str("\"\\\nA"), `"(a . 'b)"`: str("(a . 'b)"), `"."`: str("."), "\"\x00\xff\n\"": str("\x00\xff\n"),
		"a": sym("a"), "-": sym("-"), "+": sym("+"), "...": sym("..."), "1+": sym("1+"), "quote": sym("quote"), strings.Repeat("a", 64): sym(strings.Repeat("a", 64)),
	} {
		for _, gap := range []string{"", " ", "\n", " ; )\n"} {
			wantData(t, s+gap, want)
			wantData(t, gap+s, want)
			wantData(t, "("+s+gap+")", list(want))
			wantData(t, "#("+gap+s+")", vector(want))
			wantData(t, "'"+gap+s, quote(want))
			wantData(t, "(a ."+" "+s+gap+")", dotted(sym("a"), want))
			wantData(t, "("+s+" . a)", dotted(want, sym("a")))
			wantData(t, s+" "+gap+s, want, want)
		}
	}
}

func TestListsAndVectors(t *testing.T) {
	a, b, c := sym("a"), sym("b"), sym("c")
	wantData(t, "()", list())
	wantData(t, "#()", vector())
	wantData(t, "( ; x\n)", list())
	wantData(t, "(a)", list(a))
	wantData(t, "(a b c)", list(a, b, c))
	wantData(t, "#(a b c)", vector(a, b, c))
	wantData(t, "(a (b) #(c) ())", list(a, list(b), vector(c), list()))
	wantData(t, "#(a (b) #(c) #())", vector(a, list(b), vector(c), vector()))
	wantData(t, "((a)b)((c))", list(list(a), b), list(list(c)))
	wantData(t, "a b(c)", a, b, list(c))
	wantData(t, "(()())()#()", list(list(), list()), list(), vector())
	wantData(t, `(a . (b . c)) 'x #(1 "s")`, dotted(a, b, c), quote(sym("x")), vector(number(1), str("s")))
	wantData(t, strings.Repeat("a ", 2048), rowOf(a, 2048)...)
	wantData(t, "("+strings.Repeat("a ", 2046)+")", list(rowOf(a, 2046)...))
	wantData(t, "#("+strings.Repeat("a ", 2046)+")", vector(rowOf(a, 2046)...))
	wantData(t, "("+strings.Repeat("a ", 2043)+" . b)", dotted(append(rowOf(a, 2043), b)...))
	wantData(t, strings.Repeat("()", 1024), rowOf(list(), 1024)...)
}

func rowOf(d api.Datum, n int) []api.Datum {
	var out []api.Datum
	for range n {
		out = append(out, d)
	}
	return out
}

func TestQuoting(t *testing.T) {
	a, b := sym("a"), sym("b")
	wantData(t, "'a", quote(a))
	wantData(t, "' ; x\n a", quote(a))
	wantData(t, "''a", quote(quote(a)))
	wantData(t, "'a b", quote(a), b)
	wantData(t, "'a'b", quote(a), quote(b))
	wantData(t, "'()'#()", quote(list()), quote(vector()))
	wantData(t, "('a 'b)", list(quote(a), quote(b)))
	wantData(t, "#('a ''b)", vector(quote(a), quote(quote(b))))
	wantData(t, "'(a . b)", quote(dotted(a, b)))
	wantData(t, "'(a 'b)", quote(list(a, quote(b))))
	wantData(t, "('a . b)", dotted(quote(a), b))
	wantData(t, "'quote", quote(sym("quote")))
	wantData(t, "(quote a)", quote(a))
	wantData(t, "(quote . (a))", quote(a))
	// The list that a sign of quoting is goes on behind a dot as any other.
	wantData(t, "(a . 'b)", list(a, sym("quote"), b))
	wantData(t, "(a . ''b)", list(a, sym("quote"), quote(b)))
}

func TestDots(t *testing.T) {
	a, b, c, d := sym("a"), sym("b"), sym("c"), sym("d")
	wantData(t, "(a . b)", dotted(a, b))
	wantData(t, "(a b . c)", dotted(a, b, c))
	wantData(t, "(a . #())", dotted(a, vector()))
	wantData(t, "(a . #(b c))", dotted(a, vector(b, c)))
	wantData(t, "(a . ())", list(a))
	wantData(t, "(a b . ())", list(a, b))
	wantData(t, "(a . (b))", list(a, b))
	wantData(t, "(a . (b c))", list(a, b, c))
	wantData(t, "(a b . (c d))", list(a, b, c, d))
	wantData(t, "(a . (b . c))", dotted(a, b, c))
	wantData(t, "(a . (b c . d))", dotted(a, b, c, d))
	wantData(t, "(a . (b . (c . d)))", dotted(a, b, c, d))
	wantData(t, "(a . (b . (c . ())))", list(a, b, c))
	wantData(t, "(a . (b . #(c)))", dotted(a, b, vector(c)))
	wantData(t, "(a . ((b)))", list(a, list(b)))
	wantData(t, "((a . b) . c)", dotted(dotted(a, b), c))
	wantData(t, "((a . b) . (c . d))", dotted(dotted(a, b), c, d))
	wantData(t, "(() . ())", list(list()))
	wantData(t, "#((a . b))", vector(dotted(a, b)))
	wantData(t, `("a"."b")`, dotted(str("a"), str("b")))
	wantData(t, "((a).(b))", list(list(a), b))
	wantData(t, "(a ; x\n . ; y\n b ; z\n)", dotted(a, b))
	wantData(t, "(a.b ...)", list(sym("a.b"), sym("...")))
}

// P4.1, what is deep

// opened is a source that opens as the marks say (# is a vector), what closes it, and a datum within all of that.
func opened(marks string, d api.Datum) (string, string, api.Datum) {
	begin, end := "", ""
	for _, mark := range slices.Backward([]byte(marks)) {
		switch mark {
		case '(':
			begin, end, d = "("+begin, end+")", list(d)
		case '#':
			begin, end, d = "#("+begin, end+")", vector(d)
		default:
			begin, d = "'"+begin, quote(d)
		}
	}
	return begin, end, d
}

func TestThirtyTwoWithinOneAnother(t *testing.T) {
	for _, mixed := range []string{"(", "#", "'", "(#", "#(", "('", "'(", "#'", "'#", "(#'", "'(#", "#'(", "((#''"} {
		marks := strings.Repeat(mixed, 34)
		begin, end, want := opened(marks[:32], sym("a"))
		wantData(t, begin+"a"+end, want)
		wantData(t, begin+"a"+end+begin+"a"+end, want, want)
		wantWrong(t, begin, len(begin), api.ErrReadEnd)
		for n := 33; n <= 34; n++ {
			more, ends, _ := opened(marks[:n], sym("a"))
			for _, rest := range []string{"", "a", "a" + ends, ")", ". a", "(((("} {
				wantWrong(t, more+rest, len(begin), api.ErrReadDeep)
			}
		}
	}
}

func TestEachTokenWithinThirtyTwo(t *testing.T) {
	open, shut := strings.Repeat("(", 32), strings.Repeat(")", 32)
	wantData(t, open+shut, nested(31, list()))
	wantData(t, open+`#t 5 #\a "s" a`+shut, nested(31, list(boolean(1), number(5), char('a'), str("s"), sym("a"))))
	wantData(t, open+"a . b"+shut, nested(31, dotted(sym("a"), sym("b"))))
	for _, deep := range []string{"(", "#(", "'"} {
		wantWrong(t, open+deep, 32, api.ErrReadDeep)
		wantWrong(t, open+"a "+deep+"a)"+shut, 34, api.ErrReadDeep)
		wantWrong(t, open+"a . "+deep+"a)"+shut, 36, api.ErrReadDeep)
		wantWrong(t, strings.Repeat("'", 32)+deep, 32, api.ErrReadDeep)
		wantWrong(t, strings.Repeat("#(", 32)+deep, 64, api.ErrReadDeep)
	}
}

func TestWhatHasEndedIsNotWithin(t *testing.T) {
	open, shut := strings.Repeat("(", 31), strings.Repeat(")", 31)
	for _, one := range []string{"()", "#()", "'a ", "(a . b)"} {
		within := strings.Repeat(one, 20)
		wantOther(t, within+within)
		if _, at, e := Read(open + within + shut + " " + open + within + shut); e != api.OK {
			t.Errorf("%q within 31: %d, %v", one, at, e)
		}
		wantWrong(t, open+within+shut+" ("+open+one, 31+len(within)+31+2+31, api.ErrReadDeep)
	}
	wantWrong(t, open+"'(", 32, api.ErrReadDeep)
	wantWrong(t, open+"''a", 32, api.ErrReadDeep)
	wantWrong(t, open+"'a '(", 35, api.ErrReadDeep)
}

func TestDotsGoDeepAsTheyAreWritten(t *testing.T) {
	wantData(t, strings.Repeat("(a . ", 32)+"b"+strings.Repeat(")", 32), dotted(append(rowOf(sym("a"), 32), sym("b"))...))
	wantData(t, strings.Repeat("(a . ", 31)+"()"+strings.Repeat(")", 31), list(rowOf(sym("a"), 31)...))
	wantWrong(t, strings.Repeat("(a . ", 33)+"b"+strings.Repeat(")", 33), 32*5, api.ErrReadDeep)
	wantWrong(t, strings.Repeat("(a . ", 32)+"()"+strings.Repeat(")", 32), 32*5, api.ErrReadDeep)
}

// P4.1, held against the other reader

func tokenPieces() []string { return []string{"(", ")", "'", "#(", ". ", "a "} }

func TestAllShortRowsOfTokens(t *testing.T) {
	var try func(s string, more int)
	try = func(s string, more int) {
		wantOther(t, s)
		for _, piece := range tokenPieces() {
			if more > 0 {
				try(s+piece, more-1)
			}
		}
	}
	try("", 6)
}

// grown is a row of tokens that are one datum, within at most so many others.
func grown(chance *rand.Rand, depth int) []string {
	kind := chance.Intn(9)
	if depth <= 0 && kind > 2 {
		kind = 0
	}
	switch kind {
	case 0, 1, 2:
		atoms := []string{"a ", "5 ", "#t ", `"s"`, `#\a `, "- ", "-7\n"}
		return atoms[chance.Intn(len(atoms)):][:1]
	case 3:
		return append([]string{"'"}, grown(chance, depth-1)...)
	}
	out := []string{"("}
	if kind == 4 {
		out[0] = "#("
	}
	for range chance.Intn(4) + kind/8 {
		out = append(out, grown(chance, depth-1)...)
	}
	if kind == 8 {
		out = append(append(out, ". "), grown(chance, depth-1)...)
	}
	return append(out, ")")
}

// bent is the row with a token put in, taken out or changed.
func bent(chance *rand.Rand, l []string) []string {
	at, piece := chance.Intn(len(l)), tokenPieces()[chance.Intn(6)]
	switch chance.Intn(3) {
	case 0:
		return append(append(append([]string{}, l[:at]...), piece), l[at:]...)
	case 1:
		return append(append([]string{}, l[:at]...), l[at+1:]...)
	}
	l[at] = piece
	return l
}

// grownSources are sources of all sorts, right and wrong, shallow and deep; the same at each call.
func grownSources() []string {
	chance := rand.New(rand.NewSource(4))
	var out []string
	for range 10000 {
		l := grown(chance, 1+chance.Intn(8))
		for range chance.Intn(3) {
			l = append(l, grown(chance, 3)...)
		}
		out = append(out, strings.Join(l, ""), strings.Join(bent(chance, l), ""))
		var deep string
		for range 26 + chance.Intn(10) {
			deep += []string{"(", "#(", "'", "(a ", "(a . ", "#(a ", "'", "'()("}[chance.Intn(8)]
		}
		out = append(out, deep+strings.Join(l, "")+strings.Repeat(")", chance.Intn(40)))
	}
	return out
}

func TestGrownSources(t *testing.T) {
	told := map[api.Errno]int{}
	for _, s := range grownSources() {
		wantOther(t, s)
		_, _, e := Read(s)
		told[e]++
	}
	for _, e := range []api.Errno{api.OK, api.ErrReadClose, api.ErrReadEnd, api.ErrReadDot, api.ErrReadDeep} {
		if told[e] < 100 {
			t.Errorf("%d sources alone of %v", told[e], e)
		}
	}
}

// R3, R4: an answer is its own

func TestAnswersAreTheirOwn(t *testing.T) {
	const s = `(a . (b "c" . #(1 (2) 'd))) 'x (a . (b c)) #(() ())`
	one, _, _ := Read(s)
	two, _, _ := Read(s)
	before := rawRow(two)
	spoil(one)
	wantWrong(t, "(a", 2, api.ErrReadEnd)
	three, _, _ := Read(s)
	if rawRow(two) != before || rawRow(three) != before {
		t.Error(rawRow(two), rawRow(three))
	}
	for i := range two {
		four, _, _ := Read(s)
		spoil(four[i].List)
		four[i] = two[i]
		if rawRow(four) != before {
			t.Errorf("a datum shares memory with number %d", i)
		}
	}
	five, _, _ := Read("((a b) (a b) . (a b))")
	spoil(five[0].List[0].List)
	if raw(five[0].List[1]) != raw(list(sym("a"), sym("b"))) {
		t.Error(rawRow(five))
	}
}
