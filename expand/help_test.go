package expand

import (
	"scrimshaw/api"
	"scrimshaw/core"
	"scrimshaw/data"
	"scrimshaw/read"
	"strconv"
	"strings"
	"testing"
)

func integer(n int) api.Datum         { return api.Datum{Kind: api.DatInt, Int: n} }
func sym(s string) api.Datum          { return api.Datum{Kind: api.DatSymbol, Text: s} }
func text(s string) api.Datum         { return api.Datum{Kind: api.DatString, Text: s} }
func list(l ...api.Datum) api.Datum   { return api.Datum{Kind: api.DatList, List: l} }
func dotted(l ...api.Datum) api.Datum { return api.Datum{Kind: api.DatDotted, List: l} }
func vector(l ...api.Datum) api.Datum { return api.Datum{Kind: api.DatVector, List: l} }
func rows(l ...api.Datum) []api.Datum { return l }

// of are the data that a text says.
func of(s string) []api.Datum {
	l, at, wrong := read.Read(s)
	if wrong != api.OK {
		panic("no data: " + s + " at " + strconv.Itoa(at))
	}
	return l
}

// raw tells all of a datum, field by field.
func raw(d api.Datum) string {
	var out strings.Builder
	out.WriteString("{" + strconv.Itoa(d.Kind) + " " + strconv.Itoa(d.Int) + " " + strconv.Quote(d.Text))
	for _, item := range d.List {
		out.WriteString(" " + raw(item))
	}
	out.WriteString("}")
	return out.String()
}

func rawAll(l []api.Datum) string {
	var out strings.Builder
	for _, d := range l {
		out.WriteString(raw(d))
	}
	return out.String()
}

// rawExpr tells all of an expression, field by field.
func rawExpr(e api.Expr) string {
	var out strings.Builder
	out.WriteString("<" + strconv.Itoa(e.Kind) + " " + strconv.Quote(e.Name) + " " + strconv.Quote(strings.Join(e.Names, " ")) + raw(e.Const))
	for _, kid := range e.Kids {
		out.WriteString(" " + rawExpr(kid))
	}
	out.WriteString(">")
	return out.String()
}

// toldAs is an expression's text, its names as they are.
func toldAs(e api.Expr) string {
	d, wrong := core.Data(e)
	if wrong != api.OK {
		return "an expression that may not be"
	}
	return textOf(d)
}

// textOf is a datum's text, however deep it is.
func textOf(d api.Datum) string {
	if d.Kind != api.DatList || len(d.List) == 0 {
		s, _ := data.Text(d)
		return s
	}
	var parts []string
	for _, item := range d.List {
		parts = append(parts, textOf(item))
	}
	return "(" + strings.Join(parts, " ") + ")"
}

// told is an expression's text, the names numbered by their places.
func told(e api.Expr) string { return toldAs(core.Rename(e)) }

// want holds what comes of a source against the text of an expression, in which names are numbered by their places.
func want(t *testing.T, source, expr string) {
	t.Helper()
	e, _, wrong := Program(of(source), api.MaxFuel)
	if got := told(e); got != expr || wrong != api.OK {
		t.Errorf("%s:\n%s, %v; want\n%s", source, got, wrong, expr)
	}
}

// wantSame holds what comes of two sources against each other.
func wantSame(t *testing.T, source, other string) {
	t.Helper()
	e, _, wrong := Program(of(other), api.MaxFuel)
	if wrong != api.OK {
		t.Errorf("%s: %v", other, wrong)
	}
	want(t, source, told(e))
}

// wantUses holds how many uses of macros a source has against a number.
func wantUses(t *testing.T, source string, uses int) {
	t.Helper()
	if _, n, wrong := Program(of(source), api.MaxFuel); n != uses || wrong != api.OK {
		t.Errorf("%s: %d uses, %v; want %d", source, n, wrong, uses)
	}
}

func wantWrong(t *testing.T, source string, at int, errno api.Errno) {
	t.Helper()
	wantWrongData(t, of(source), api.MaxFuel, at, errno)
}

func wantWrongData(t *testing.T, l []api.Datum, fuel, at int, errno api.Errno) {
	t.Helper()
	e, got, wrong := Program(l, fuel)
	if wrong != errno || got != at || rawExpr(e) != rawExpr(api.Expr{}) || e.Kids != nil || e.Names != nil {
		t.Errorf("%.600s: %.300s, %d, %v; want %d, %v", textsOf(l), told(e), got, wrong, at, errno)
	}
}

// textsOf are data for a test's eye.
func textsOf(l []api.Datum) string {
	var out strings.Builder
	for _, d := range l {
		if data.Check(d) != api.OK {
			return out.String() + "a datum that may not be"
		}
		out.WriteString(textOf(d) + " ")
	}
	return out.String()
}

// memory is all that has a place of its own in what is looked at, what lies behind the lists' ends too.
type memory map[any]int

func (m memory) ofData(l []api.Datum) {
	l = l[:cap(l)]
	for i := range l {
		m[&l[i]]++
		m.ofData(l[i].List)
	}
}

func (m memory) ofExpr(e api.Expr) {
	names := e.Names[:cap(e.Names)]
	for i := range names {
		m[&names[i]]++
	}
	m.ofData(e.Const.List)
	kids := e.Kids[:cap(e.Kids)]
	for i := range kids {
		m[&kids[i]]++
		m.ofExpr(kids[i])
	}
}

// shared tells whether anything is met twice.
func (m memory) shared() bool {
	for _, n := range m {
		if n > 1 {
			return true
		}
	}
	return false
}
