package read

import (
	"scrimshaw/api"
	"scrimshaw/data"
	"slices"
	"strings"
	"testing"
)

// P4.2

func wantText(t *testing.T, l []api.Datum, want string) {
	t.Helper()
	if s, e := Write(l); s != want || e != api.OK {
		t.Errorf("Write(%.900s): %.300q, %v; want %.300q", rawRow(l), s, e, want)
	}
}

func wantUnwritten(t *testing.T, l []api.Datum, want api.Errno) {
	t.Helper()
	if s, e := Write(l); s != "" || e != want {
		t.Errorf("Write of %d: %.300q, %v; want %v", len(l), s, e, want)
	}
}

func TestWrite(t *testing.T) {
	one, a := number(1), sym("a")
	wantText(t, nil, "")
	wantText(t, row(), "")
	wantText(t, row(one), "1\n")
	wantText(t, row(one, a), "1\na\n")
	wantText(t, row(list(), vector(), str("")), "()\n#()\n\"\"\n")
	wantText(t, row(boolean(0), boolean(1), number(-5), char(10), char(200), str("a\n\"")), "#f\n#t\n-5\n#\\newline\n#\\xc8\n\"a\\n\\\"\"\n")
	wantText(t, row(list(a, str("b\""), char(32)), dotted(one, number(-2)), vector(list(), boolean(1))), "(a \"b\\\"\" #\\space)\n(1 . -2)\n#(() #t)\n")
	wantText(t, row(quote(a), list(sym("quote")), sym("quote")), "(quote a)\n(quote)\nquote\n")
	wantText(t, rowOf(a, 100000), strings.Repeat("a\n", 100000))
	wantText(t, row(str(strings.Repeat("\x00", 4096)), one), "\""+strings.Repeat("\\x00", 4096)+"\"\n1\n")
	wantText(t, row(nested(32, a)), strings.Repeat("(", 32)+"a"+strings.Repeat(")", 32)+"\n")
	wantText(t, rowOf(list(rowOf(list(), 4095)...), 3), strings.Repeat("("+strings.Repeat(" ()", 4095)[1:]+")\n", 3))
}

func TestWriteIsTheTexts(t *testing.T) {
	var all strings.Builder
	for _, d := range someData() {
		text, _ := data.Text(d)
		wantText(t, row(d), text+"\n")
		wantText(t, row(d, number(1), d), text+"\n1\n"+text+"\n")
		all.WriteString(text + "\n")
	}
	wantText(t, someData(), all.String())
}

func TestWriteOfWhatMayNotBe(t *testing.T) {
	one := number(1)
	form := row(api.Datum{Kind: -1}, api.Datum{Kind: api.DatKinds}, boolean(2), number(api.MaxInt+1), number(-api.MaxInt-2), char(256), char(-1), str(strings.Repeat("a", 4097)), sym(""), sym("."), sym("5"), sym("a b"), sym(strings.Repeat("a", 65)),
		dotted(), dotted(one), dotted(one, list()), dotted(one, dotted(one, one)), api.Datum{Kind: api.DatInt, Text: "1"}, api.Datum{Kind: api.DatList, Int: 1}, api.Datum{Kind: api.DatString, Text: "a", List: row(one)}, list(sym("5")), vector(list(char(256))))
	deep := row(nested(33, one), nested(33, sym("5")), nested(32, list()), list(nested(32, one), sym("5")), vector(nested(32, one)), dotted(one, vector(nested(31, one))))
	many := row(list(rowOf(one, 4096)...), vector(rowOf(list(), 4096)...), list(append(rowOf(one, 4095), sym("5"))...))
	for _, d := range form {
		wantUnwritten(t, row(d), api.ErrDataForm)
	}
	for _, d := range deep {
		wantUnwritten(t, row(d), api.ErrDataDeep)
	}
	for _, d := range many {
		wantUnwritten(t, row(d), api.ErrDataMany)
	}
}

func TestTheFirstThatMayNotBeDecides(t *testing.T) {
	wrong := []struct {
		d api.Datum
		e api.Errno
	}{{sym("5"), api.ErrDataForm}, {nested(33, number(1)), api.ErrDataDeep}, {list(rowOf(number(1), 4096)...), api.ErrDataMany}}
	fine := row(number(1), list(sym("a")), nested(32, number(1)), list(rowOf(number(1), 4095)...))
	for _, a := range wrong {
		for _, b := range wrong {
			wantUnwritten(t, row(a.d, b.d), a.e)
			wantUnwritten(t, append(slices.Clone(fine), a.d, b.d), a.e)
			wantUnwritten(t, append(row(a.d), append(slices.Clone(fine), b.d)...), a.e)
		}
		wantUnwritten(t, append(row(a.d), fine...), a.e)
		wantUnwritten(t, append(slices.Clone(fine), a.d), a.e)
		wantUnwritten(t, append(rowOf(number(1), 5000), a.d), a.e)
	}
	// How many, and how deep, is counted anew for each.
	wantText(t, rowOf(fine[2], 200), strings.Repeat(strings.Repeat("(", 32)+"1"+strings.Repeat(")", 32)+"\n", 200))
}

func TestWriteEndsOfWhatIsWithinItself(t *testing.T) {
	for _, kind := range []int{api.DatList, api.DatDotted, api.DatVector} {
		l := row(number(1), number(2), number(3))
		l[1] = api.Datum{Kind: kind, List: l}
		wantUnwritten(t, l, api.ErrDataDeep)
		l[0] = l[1]
		wantUnwritten(t, l, api.ErrDataDeep)
	}
	wide := list(number(1))
	for range 31 {
		wide = list(wide, wide, wide, wide)
	}
	wantUnwritten(t, row(wide), api.ErrDataMany)
}

// R4

func TestWriteChangesNothing(t *testing.T) {
	l := someData()
	before := rawRow(l)
	Write(l)
	Write(append(l, sym("5")))
	if rawRow(l) != before {
		t.Error("data have changed")
	}
}
