package box

import (
	"fmt"
	"scrimshaw/api"
	"scrimshaw/core"
	"scrimshaw/data"
	"scrimshaw/model"
	"scrimshaw/read"
	"slices"
	"strings"
	"testing"
)

// of is the expression that a text says; there 5, #t stand for (quote 5), (quote #t), and (f x), (car x) for (call f x), (prim car x).
func of(s string) api.Expr {
	l, _, wrong := read.Read(s)
	if wrong != api.OK || len(l) != 1 {
		panic("no datum: " + s)
	}
	e, wrong := core.Make(long(l[0]))
	if wrong != api.OK {
		panic("no expression: " + s)
	}
	return e
}

func list(l ...api.Datum) api.Datum { return api.Datum{Kind: api.DatList, List: l} }
func symbol(s string) api.Datum     { return api.Datum{Kind: api.DatSymbol, Text: s} }

func number(n int) api.Expr {
	return api.Expr{Kind: api.ExpQuote, Const: api.Datum{Kind: api.DatInt, Int: n}}
}

func kind(kind int, kids ...api.Expr) api.Expr { return api.Expr{Kind: kind, Kids: kids} }

func long(d api.Datum) api.Datum {
	if d.Kind == api.DatSymbol || len(d.List) > 0 && d.List[0].Text == "quote" {
		return d
	}
	if len(d.List) == 0 {
		return list(symbol("quote"), d)
	}
	first, rest := d.List[0], slices.Clone(d.List[1:])
	out := []api.Datum{first}
	switch word := first.Text; {
	case core.Arity(word) >= 0:
		out = []api.Datum{symbol("prim"), first}
	case word == "set!", word == "lambda":
		out, rest = append(out, rest[0]), rest[1:]
	case word == "let", word == "letrec", word == "fix":
		var bound []api.Datum
		for _, b := range rest[0].List {
			bound = append(bound, list(b.List[0], long(b.List[1])))
		}
		out, rest = append(out, list(bound...)), rest[1:]
	case word != "if" && word != "begin":
		out, rest = []api.Datum{symbol("call")}, d.List
	}
	for _, item := range rest {
		out = append(out, long(item))
	}
	return list(out...)
}

// textOf is an expression for a test's eye, however deep it is.
func textOf(e api.Expr) string {
	d, wrong := core.Data(e)
	if wrong != api.OK {
		return fmt.Sprintf("an expression that may not be (%v)", wrong)
	}
	return textOfDatum(d)
}

func textOfDatum(d api.Datum) string {
	if len(d.List) == 0 {
		s, _ := data.Text(d)
		return s
	}
	var parts []string
	for _, item := range d.List {
		parts = append(parts, textOfDatum(item))
	}
	return "(" + strings.Join(parts, " ") + ")"
}

func textOfShown(o api.Outcome) string {
	s, _ := data.Text(o.Shown)
	return s
}

// told is an outcome but its steps.
func told(o api.Outcome) string { return fmt.Sprintf("%v %v %v %q", o.Err, o.Shown, o.Whole, o.Output) }

// has tells whether an expression is of a kind, or one within is.
func has(e api.Expr, kind int) bool {
	return e.Kind == kind || slices.ContainsFunc(e.Kids, func(kid api.Expr) bool { return has(kid, kind) })
}

// setsOther tells whether something else is set than what an ExpLet or an ExpLam binds; it knows of what kind the innermost binding of each name is.
func setsOther(e api.Expr, kinds map[string]int) bool {
	if e.Kind == api.ExpSet && kinds[e.Name] != api.ExpLet && kinds[e.Name] != api.ExpLam {
		return true
	}
	inner := map[string]int{}
	for name, kind := range kinds {
		inner[name] = kind
	}
	for _, name := range e.Names {
		inner[name] = e.Kind
	}
	for i, kid := range e.Kids {
		in := inner
		if e.Kind == api.ExpLet && i < len(e.Names) {
			in = kinds
		}
		if setsOther(kid, in) {
			return true
		}
	}
	return false
}

// size is how many expressions there are, and how many within one another.
func size(e api.Expr) (expressions, within int) {
	for _, kid := range e.Kids {
		n, deep := size(kid)
		expressions += n
		within = max(within, deep)
	}
	return expressions + 1, within + 1
}

// closed has constants bound to an expression's free names.
func closed(e api.Expr, free []string) api.Expr {
	if len(free) == 0 {
		return e
	}
	out := api.Expr{Kind: api.ExpLet, Names: free}
	for i := range free {
		out.Kids = append(out.Kids, number(3+i))
	}
	out.Kids = append(out.Kids, e)
	return out
}

// enough steps for most; what takes more is not looked at.
const enough = 5000

// wantBoxed is P11.1 and P11.2 of an expression that may be handed in and is not too big; it tells what Box made of it.
func wantBoxed(t *testing.T, e api.Expr, input string) api.Expr {
	t.Helper()
	was := fmt.Sprint(e)
	out, wrong := Box(e)
	if wrong != api.OK || core.Check(out) != api.OK {
		t.Fatalf("Box(%s): %v, which is %v", textOf(e), wrong, core.Check(out))
	}
	free := core.Free(e)
	if !slices.Equal(core.Free(out), free) || has(out, api.ExpRec) || has(out, api.ExpSet) {
		t.Fatalf("Box(%s): %s", textOf(e), textOf(out))
	}
	if !has(e, api.ExpSet) && !core.Equal(e, out) {
		t.Fatalf("Box(%s): %s", textOf(e), textOf(out))
	}
	again, wrong := Box(out)
	if wrong != api.OK || !core.Equal(again, out) {
		t.Fatalf("Box(%s): %v, %s", textOf(out), wrong, textOf(again))
	}
	wantSame(t, closed(e, free), closed(out, free), input)
	if fmt.Sprint(e) != was {
		t.Fatalf("Box changes %s", textOf(e))
	}
	return out
}

// wantSame is that b means the same as a, as far as one input tells.
func wantSame(t *testing.T, a, b api.Expr, input string) {
	t.Helper()
	want := model.Run(a, input, enough)
	if want.Err == api.ErrRunSteps {
		return
	}
	if got := model.Run(b, input, 4*want.Steps+4); told(got) != told(want) {
		got = model.Run(b, input, api.MaxSteps)
		t.Fatalf("%s: %s in %d steps; what was made, %s: %s in %d", textOf(a), told(want), want.Steps, textOf(b), told(got), got.Steps)
	}
}

// wantForm is that an expression may not be handed in.
func wantForm(t *testing.T, e api.Expr) {
	t.Helper()
	if out, wrong := Box(e); wrong != api.ErrPassForm || !core.Equal(out, api.Expr{}) {
		t.Errorf("of kind %d, %.200s: %v %.200s", e.Kind, textOf(e), wrong, textOf(out))
	}
}

// memory counts how often each place of the lists in an expression is met, those behind their ends too.
type memory map[any]int

func (m memory) look(e api.Expr) {
	for i := range e.Names[:cap(e.Names)] {
		m[&e.Names[:cap(e.Names)][i]]++
	}
	for i := range e.Kids[:cap(e.Kids)] {
		m[&e.Kids[:cap(e.Kids)][i]]++
	}
	for i := range e.Const.List[:cap(e.Const.List)] {
		m[&e.Const.List[:cap(e.Const.List)][i]]++
	}
	for _, kid := range e.Kids {
		m.look(kid)
	}
}

func (m memory) isShared() bool {
	for _, times := range m {
		if times > 1 {
			return true
		}
	}
	return false
}
