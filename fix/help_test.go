package fix

import (
	"fmt"
	"scrimshaw/api"
	"scrimshaw/core"
	"scrimshaw/data"
	"scrimshaw/model"
	"scrimshaw/read"
	"slices"
	"strings"
	"testing"
)

// of is the expression that a text says; there 5, #t stand for (quote 5), (quote #t), and (f x), (car x) for (call f x), (prim car x).
func of(s string) api.Expr {
	l, _, wrong := read.Read(s)
	if wrong != api.OK || len(l) != 1 {
		panic("no datum: " + s)
	}
	e, wrong := core.Make(long(l[0]))
	if wrong != api.OK {
		panic("no expression: " + s)
	}
	return e
}

func list(l ...api.Datum) api.Datum { return api.Datum{Kind: api.DatList, List: l} }
func symbol(s string) api.Datum     { return api.Datum{Kind: api.DatSymbol, Text: s} }

func long(d api.Datum) api.Datum {
	if d.Kind == api.DatSymbol || len(d.List) > 0 && d.List[0].Text == "quote" {
		return d
	}
	if len(d.List) == 0 {
		return list(symbol("quote"), d)
	}
	first, rest := d.List[0], slices.Clone(d.List[1:])
	out := []api.Datum{first}
	switch word := first.Text; {
	case core.Arity(word) >= 0:
		out = []api.Datum{symbol("prim"), first}
	case word == "set!", word == "lambda":
		out, rest = append(out, rest[0]), rest[1:]
	case word == "let", word == "letrec", word == "fix":
		var bound []api.Datum
		for _, b := range rest[0].List {
			bound = append(bound, list(b.List[0], long(b.List[1])))
		}
		out, rest = append(out, list(bound...)), rest[1:]
	case word != "if" && word != "begin":
		out, rest = []api.Datum{symbol("call")}, d.List
	}
	for _, item := range rest {
		out = append(out, long(item))
	}
	return list(out...)
}

// textOf is an expression for a test's eye, however deep it is.
func textOf(e api.Expr) string {
	d, wrong := core.Data(e)
	if wrong != api.OK {
		return fmt.Sprintf("an expression that may not be (%v)", wrong)
	}
	return textOfDatum(d)
}

func textOfDatum(d api.Datum) string {
	if len(d.List) == 0 {
		s, _ := data.Text(d)
		return s
	}
	var parts []string
	for _, item := range d.List {
		parts = append(parts, textOfDatum(item))
	}
	return "(" + strings.Join(parts, " ") + ")"
}

func textOfShown(o api.Outcome) string {
	s, _ := data.Text(o.Shown)
	return s
}

// told is an outcome but its steps.
func told(o api.Outcome) string { return fmt.Sprintf("%v %v %v %q", o.Err, o.Shown, o.Whole, o.Output) }

// has tells whether an expression is such, or one within is.
func has(e api.Expr, is func(api.Expr) bool) bool {
	return is(e) || slices.ContainsFunc(e.Kids, func(kid api.Expr) bool { return has(kid, is) })
}

func isRec(e api.Expr) bool { return e.Kind == api.ExpRec }

func makesVector(e api.Expr) bool { return e.Kind == api.ExpPrim && e.Name == "make-vector" }

// assignsFix tells whether a name that an ExpFix binds is assigned; it knows of what kind the innermost binding of each name is.
func assignsFix(e api.Expr, kinds map[string]int) bool {
	if e.Kind == api.ExpSet && kinds[e.Name] == api.ExpFix {
		return true
	}
	inner := map[string]int{}
	for name, kind := range kinds {
		inner[name] = kind
	}
	for _, name := range e.Names {
		inner[name] = e.Kind
	}
	for i, kid := range e.Kids {
		in := inner
		if e.Kind == api.ExpLet && i < len(e.Names) {
			in = kinds
		}
		if assignsFix(kid, in) {
			return true
		}
	}
	return false
}

// closed has constants bound to an expression's free names.
func closed(e api.Expr, free []string, constant int) api.Expr {
	if len(free) == 0 {
		return e
	}
	out := api.Expr{Kind: api.ExpLet, Names: free}
	for i := range free {
		out.Kids = append(out.Kids, number(constant+i))
	}
	out.Kids = append(out.Kids, e)
	return out
}

// enough steps for most; what takes more is not looked at.
const enough = 5000

// wantFixed is P10.1 and P10.2 of an expression that may be and is not too big; it tells what Fix made of it.
func wantFixed(t *testing.T, e api.Expr, input string) api.Expr {
	t.Helper()
	was := fmt.Sprint(e)
	out, wrong := Fix(e)
	if wrong != api.OK || core.Check(out) != api.OK {
		t.Fatalf("Fix(%s): %v, which is %v", textOf(e), wrong, core.Check(out))
	}
	free := core.Free(e)
	if !slices.Equal(core.Free(out), free) || has(out, isRec) || assignsFix(out, nil) {
		t.Fatalf("Fix(%s): %s", textOf(e), textOf(out))
	}
	again, wrong := Fix(out)
	if wrong != api.OK || !core.Equal(again, out) {
		t.Fatalf("Fix(%s): %v, %s", textOf(out), wrong, textOf(again))
	}
	if !has(e, isRec) && !assignsFix(e, nil) && !core.Equal(e, out) {
		t.Fatalf("Fix(%s): %s", textOf(e), textOf(out))
	}
	wantSame(t, closed(e, free, 3), closed(out, free, 3), input)
	if fmt.Sprint(e) != was {
		t.Fatalf("Fix changes %s", textOf(e))
	}
	return out
}

// wantSame is that b means the same as a, as far as one input tells.
func wantSame(t *testing.T, a, b api.Expr, input string) {
	t.Helper()
	want := model.Run(a, input, enough)
	if want.Err == api.ErrRunSteps {
		return
	}
	if got := model.Run(b, input, 4*want.Steps+4); told(got) != told(want) {
		got = model.Run(b, input, api.MaxSteps)
		t.Fatalf("%s: %s in %d steps; what was made, %s: %s in %d", textOf(a), told(want), want.Steps, textOf(b), told(got), got.Steps)
	}
}

// wantValue is of an expression without free names: what it shows, also when it was fixed.
func wantValue(t *testing.T, s, shown string) api.Expr {
	t.Helper()
	e := of(s)
	o := model.Run(e, "", enough)
	if got := textOfShown(o); got != shown || o.Err != api.OK {
		t.Fatalf("%s: %v %s, want %s", s, o.Err, got, shown)
	}
	return wantFixed(t, e, "")
}

// memory counts how often each place of the lists in an expression is met, those behind their ends too.
type memory map[any]int

func (m memory) look(e api.Expr) {
	for i := range e.Names[:cap(e.Names)] {
		m[&e.Names[:cap(e.Names)][i]]++
	}
	for i := range e.Kids[:cap(e.Kids)] {
		m[&e.Kids[:cap(e.Kids)][i]]++
	}
	for i := range e.Const.List[:cap(e.Const.List)] {
		m[&e.Const.List[:cap(e.Const.List)][i]]++
	}
	for _, kid := range e.Kids {
		m.look(kid)
	}
}

func (m memory) isShared() bool {
	for _, times := range m {
		if times > 1 {
			return true
		}
	}
	return false
}
