package core

import (
	"scrimshaw/api"
	"scrimshaw/data"
	"scrimshaw/read"
	"strconv"
	"strings"
	"testing"
)

func names(l ...string) []string    { return l }
func kids(l ...api.Expr) []api.Expr { return l }

func boolean(n int) api.Datum         { return api.Datum{Kind: api.DatBool, Int: n} }
func number(n int) api.Datum          { return api.Datum{Kind: api.DatInt, Int: n} }
func char(n int) api.Datum            { return api.Datum{Kind: api.DatChar, Int: n} }
func sym(s string) api.Datum          { return api.Datum{Kind: api.DatSymbol, Text: s} }
func vector(l ...api.Datum) api.Datum { return api.Datum{Kind: api.DatVector, List: l} }
func row(l ...api.Datum) []api.Datum  { return l }

func quote(d api.Datum) api.Expr { return api.Expr{Kind: api.ExpQuote, Const: d} }
func ref(s string) api.Expr      { return api.Expr{Kind: api.ExpRef, Name: s} }
func set(s string, l ...api.Expr) api.Expr {
	return api.Expr{Kind: api.ExpSet, Name: s, Kids: l}
}
func cond(l ...api.Expr) api.Expr { return api.Expr{Kind: api.ExpIf, Kids: l} }
func seq(l ...api.Expr) api.Expr  { return api.Expr{Kind: api.ExpSeq, Kids: l} }
func call(l ...api.Expr) api.Expr { return api.Expr{Kind: api.ExpCall, Kids: l} }
func lam(names []string, l ...api.Expr) api.Expr {
	return api.Expr{Kind: api.ExpLam, Names: names, Kids: l}
}
func prim(s string, l ...api.Expr) api.Expr {
	return api.Expr{Kind: api.ExpPrim, Name: s, Kids: l}
}
func let(names []string, l ...api.Expr) api.Expr {
	return api.Expr{Kind: api.ExpLet, Names: names, Kids: l}
}
func rec(names []string, l ...api.Expr) api.Expr {
	return api.Expr{Kind: api.ExpRec, Names: names, Kids: l}
}
func fixed(names []string, l ...api.Expr) api.Expr {
	return api.Expr{Kind: api.ExpFix, Names: names, Kids: l}
}

// datum is the one that a text says.
func datum(s string) api.Datum {
	l, at, e := read.Read(s)
	if len(l) != 1 || e != api.OK {
		panic("no datum: " + s + " at " + strconv.Itoa(at))
	}
	return l[0]
}

// of is the expression that a text says; of it the first example of each kind is held against one that is laid by hand (see TestMake).
func of(s string) api.Expr {
	e, err := Make(datum(s))
	if err != api.OK {
		panic("no expression: " + s)
	}
	return e
}

// nested has an expression within so many others.
func nested(depth int, e api.Expr) api.Expr {
	for range depth {
		e = call(e)
	}
	return e
}

// many is a row of so many expressions, of one each.
func many(n int) []api.Expr {
	l := make([]api.Expr, n)
	for i := range l {
		l[i] = ref("a")
	}
	return l
}

// looped is within itself.
func looped(e api.Expr) api.Expr {
	e.Kids = append(kids(), e.Kids...)
	for i := range e.Kids {
		e.Kids[i] = e
	}
	return e
}

// wide shares its memory: there is little of it, but more expressions are come to than could ever be gone over.
func wide() api.Expr {
	e := ref("a")
	for range 200 {
		e = seq(e, e, e)
	}
	return e
}

// numbers are so many names.
func numbers(n int) []string {
	var l []string
	for i := range n {
		l = append(l, "n"+strconv.Itoa(i))
	}
	return l
}

// raw tells all of a datum, field by field.
func raw(d api.Datum) string {
	var out strings.Builder
	out.WriteString("{" + strconv.Itoa(d.Kind) + " " + strconv.Itoa(d.Int) + " " + strconv.Quote(d.Text))
	for _, item := range d.List {
		out.WriteString(" " + raw(item))
	}
	out.WriteString("}")
	return out.String()
}

// rawExpr tells all of an expression, field by field, by none of this package's functions.
func rawExpr(e api.Expr) string {
	var out strings.Builder
	out.WriteString("<" + strconv.Itoa(e.Kind) + " " + strconv.Quote(e.Name))
	for _, name := range e.Names {
		out.WriteString(" " + strconv.Quote(name))
	}
	if raw(e.Const) != raw(api.Datum{}) {
		out.WriteString(" " + raw(e.Const))
	}
	for _, kid := range e.Kids {
		out.WriteString(" " + rawExpr(kid))
	}
	out.WriteString(">")
	return out.String()
}

// told is an expression for a test's eye.
func told(e api.Expr) string {
	if Check(e) != api.OK {
		return "an expression that may not be"
	}
	return textOf(e)
}

// textOf is the text of an expression that may be, laid from the table, by none of this package's functions.
func textOf(e api.Expr) string {
	words := []string{"quote", "", "set!", "if", "begin", "lambda", "call", "prim", "let", "letrec", "fix"}
	parts := []string{words[e.Kind]}
	rest := e.Kids
	switch {
	case e.Kind == api.ExpRef:
		return e.Name
	case e.Kind == api.ExpQuote:
		s, _ := data.Text(e.Const)
		parts = append(parts, s)
	case e.Name != "":
		parts = append(parts, e.Name)
	case e.Kind == api.ExpLam:
		parts = append(parts, "("+strings.Join(e.Names, " ")+")")
	case e.Kind >= api.ExpLet:
		var bound []string
		for i, name := range e.Names {
			bound = append(bound, "("+name+" "+textOf(e.Kids[i])+")")
		}
		parts = append(parts, "("+strings.Join(bound, " ")+")")
		rest = e.Kids[len(e.Names):]
	}
	for _, kid := range rest {
		parts = append(parts, textOf(kid))
	}
	return "(" + strings.Join(parts, " ") + ")"
}

// textOfDatum is a datum's text, however deep it is.
func textOfDatum(d api.Datum) string {
	if d.Kind != api.DatList || len(d.List) == 0 {
		s, e := data.Text(d)
		if e != api.OK {
			return "a datum that may not be"
		}
		return s
	}
	var parts []string
	for _, item := range d.List {
		parts = append(parts, textOfDatum(item))
	}
	return "(" + strings.Join(parts, " ") + ")"
}

// memory is all that has a place of its own in what is looked at, what lies behind the lists' ends too.
type memory map[any]int

func (m memory) ofDatum(d api.Datum) {
	for i := range d.List[:cap(d.List)] {
		m[&d.List[:cap(d.List)][i]]++
	}
	for _, item := range d.List {
		m.ofDatum(item)
	}
}

func (m memory) ofNames(l []string) {
	for i := range l[:cap(l)] {
		m[&l[:cap(l)][i]]++
	}
}

func (m memory) ofExpr(e api.Expr) {
	m.ofNames(e.Names)
	m.ofDatum(e.Const)
	for i := range e.Kids[:cap(e.Kids)] {
		m[&e.Kids[:cap(e.Kids)][i]]++
	}
	for _, kid := range e.Kids {
		m.ofExpr(kid)
	}
}

// shared tells whether anything is met twice.
func (m memory) shared() bool {
	for _, n := range m {
		if n > 1 {
			return true
		}
	}
	return false
}

func wantCheck(t *testing.T, e api.Expr, want api.Errno) {
	t.Helper()
	if got := Check(e); got != want {
		t.Errorf("Check(%.300s): %v, want %v", toldWhole(e), got, want)
	}
}

// toldWhole is told also of an expression that may not be, if it can be gone over.
func toldWhole(e api.Expr) string {
	if wrong := Check(e); wrong == api.ErrCoreForm && isShort(e, 200) {
		return rawExpr(e)
	}
	return told(e)
}

// isShort tells whether there are no more than so many expressions within.
func isShort(e api.Expr, most int) bool { return left(e, most) >= 0 }

func left(e api.Expr, most int) int {
	most--
	for _, kid := range e.Kids {
		if most >= 0 {
			most = left(kid, most)
		}
	}
	return most
}
