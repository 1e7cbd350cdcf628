package read

import (
	"regexp"
	"scrimshaw/api"
	"scrimshaw/lex"
	"slices"
	"strconv"
	"strings"
	"testing"
)

func boolean(n int) api.Datum         { return api.Datum{Kind: api.DatBool, Int: n} }
func number(n int) api.Datum          { return api.Datum{Kind: api.DatInt, Int: n} }
func char(n int) api.Datum            { return api.Datum{Kind: api.DatChar, Int: n} }
func str(s string) api.Datum          { return api.Datum{Kind: api.DatString, Text: s} }
func sym(s string) api.Datum          { return api.Datum{Kind: api.DatSymbol, Text: s} }
func list(l ...api.Datum) api.Datum   { return api.Datum{Kind: api.DatList, List: l} }
func dotted(l ...api.Datum) api.Datum { return api.Datum{Kind: api.DatDotted, List: l} }
func vector(l ...api.Datum) api.Datum { return api.Datum{Kind: api.DatVector, List: l} }
func quote(d api.Datum) api.Datum     { return list(sym("quote"), d) }
func row(l ...api.Datum) []api.Datum  { return l }
func oneByte(b int) string            { return string([]byte{byte(b)}) }

// nested has a datum within so many others.
func nested(depth int, d api.Datum) api.Datum {
	for range depth {
		d = list(d)
	}
	return d
}

func quoted(depth int, d api.Datum) api.Datum {
	for range depth {
		d = quote(d)
	}
	return d
}

// raw tells all of a datum, field by field.
func raw(d api.Datum) string {
	var out strings.Builder
	out.WriteString("{" + strconv.Itoa(d.Kind) + " " + strconv.Itoa(d.Int) + " " + strconv.Quote(d.Text))
	for _, item := range d.List {
		out.WriteString(" " + raw(item))
	}
	out.WriteString("}")
	return out.String()
}

func rawRow(l []api.Datum) string { return raw(list(l...)) }

// spoil changes all the memory that a row of data has, what lies behind its end too.
func spoil(l []api.Datum) {
	for _, d := range l {
		spoil(d.List)
	}
	l = l[:cap(l)]
	for i := range l {
		l[i] = str("spoilt")
	}
}

func wantData(t *testing.T, s string, want ...api.Datum) {
	t.Helper()
	if l, at, e := Read(s); rawRow(l) != rawRow(want) || at != 0 || e != api.OK {
		t.Errorf("Read(%.300q): %.900s, %d, %v; want %.900s", s, rawRow(l), at, e, rawRow(want))
	}
}

func wantWrong(t *testing.T, s string, at int, e api.Errno) {
	t.Helper()
	if l, gotAt, gotE := Read(s); len(l) != 0 || gotAt != at || gotE != e {
		t.Errorf("Read(%.300q): %.900s, %d, %v; want %d, %v", s, rawRow(l), gotAt, gotE, at, e)
	}
}

// wantOther asks that Read answers what the other reader of the tests does; one source where it does not is enough.
func wantOther(t *testing.T, s string) {
	t.Helper()
	if t.Failed() {
		t.FailNow()
	}
	if l, at, e := other(s); e != api.OK {
		wantWrong(t, s, at, e)
	} else {
		wantData(t, s, l...)
	}
}

// The other reader of the tests keeps a row of marks, a D for each datum that has ended, and knows by patterns which rows a source may begin with.
var (
	mayStand = regexp.MustCompile(`^D*(?:\(D*|\(D+\.|vD*|')*(?:\(D+\.D)?$`)
	mayClose = regexp.MustCompile(`(?:\(D*|\(D+\.D|vD*)$`)
)

type shelf struct {
	marks string
	data  []api.Datum // one a mark
}

// other answers as Read is to answer.
func other(s string) ([]api.Datum, int, api.Errno) {
	tokens, at, e := lex.Tokens(s)
	if e != api.OK {
		return nil, at, e
	}
	var x shelf
	for _, tok := range tokens {
		if e := x.take(tok); e != api.OK {
			return nil, tok.At, e
		}
	}
	if strings.Trim(x.marks, "D") != "" {
		return nil, len(s), api.ErrReadEnd
	}
	return x.data, 0, api.OK
}

func (x *shelf) take(tok api.Token) api.Errno {
	if tok.Kind == api.TokClose {
		if !mayClose.MatchString(x.marks) {
			return api.ErrReadClose
		}
		x.close()
		return api.OK
	}
	ahead := x.marks
	mark, is := map[int]string{api.TokOpen: "(", api.TokVector: "v", api.TokQuote: "'", api.TokDot: "."}[tok.Kind]
	if !is {
		// With it the data of the signs of quoting ahead end, and are a D as well.
		mark, ahead = "D", strings.TrimRight(ahead, "'")
	}
	if !mayStand.MatchString(ahead + mark) {
		return api.ErrReadDot
	}
	if strings.Contains("(v'", mark) && strings.Count(x.marks, "(")+strings.Count(x.marks, "v")+strings.Count(x.marks, "'") == 32 {
		return api.ErrReadDeep
	}
	x.put(mark, api.Datum{Kind: map[int]int{api.TokBool: api.DatBool, api.TokInt: api.DatInt, api.TokChar: api.DatChar, api.TokString: api.DatString, api.TokSymbol: api.DatSymbol}[tok.Kind], Int: tok.Int, Text: tok.Text})
	return api.OK
}

func (x *shelf) put(mark string, d api.Datum) {
	for mark == "D" && strings.HasSuffix(x.marks, "'") {
		x.cut(len(x.marks) - 1)
		d = quote(d)
	}
	x.marks += mark
	x.data = append(x.data, d)
}

func (x *shelf) cut(size int) { x.marks, x.data = x.marks[:size], x.data[:size] }

func (x *shelf) close() {
	begin := strings.LastIndexAny(x.marks, "(v")
	mark, items := x.marks[begin:], slices.Clone(x.data[begin+1:])
	x.cut(begin)
	switch {
	case mark[0] == 'v':
		x.put("D", vector(items...))
	case strings.HasSuffix(mark, ".D"):
		x.put("D", joined(items[:len(items)-2], items[len(items)-1]))
	default:
		x.put("D", list(items...))
	}
}

func joined(items []api.Datum, tail api.Datum) api.Datum {
	switch tail.Kind {
	case api.DatList:
		return list(append(items, tail.List...)...)
	case api.DatDotted:
		return dotted(append(items, tail.List...)...)
	}
	return dotted(append(items, tail)...)
}

func TestTheOtherReader(t *testing.T) {
	for s, want := range map[string]string{
		"(a . (b . c)) 'x #(1)": rawRow(row(dotted(sym("a"), sym("b"), sym("c")), quote(sym("x")), vector(number(1)))),
		"(a . (b c)) ''()":      rawRow(row(list(sym("a"), sym("b"), sym("c")), quote(quote(list())))),
	} {
		if l, at, e := other(s); rawRow(l) != want || at != 0 || e != api.OK {
			t.Errorf("%q: %s, %d, %v", s, rawRow(l), at, e)
		}
	}
}
