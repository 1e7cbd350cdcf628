package anf

import (
	"fmt"
	"scrimshaw/api"
	"scrimshaw/core"
	"scrimshaw/data"
	"scrimshaw/model"
	"scrimshaw/read"
	"slices"
	"strings"
	"testing"
)

// of is the expression that a text says; there 5, #t stand for (quote 5), (quote #t), and (f x), (car x) for (call f x), (prim car x).
func of(s string) api.Expr {
	l, _, wrong := read.Read(s)
	if wrong != api.OK || len(l) != 1 {
		panic("no datum: " + s)
	}
	e, wrong := core.Make(long(l[0]))
	if wrong != api.OK {
		panic("no expression: " + s)
	}
	return e
}

func list(l ...api.Datum) api.Datum { return api.Datum{Kind: api.DatList, List: l} }
func symbol(s string) api.Datum     { return api.Datum{Kind: api.DatSymbol, Text: s} }
func ref(name string) api.Expr      { return api.Expr{Kind: api.ExpRef, Name: name} }

func number(n int) api.Expr {
	return api.Expr{Kind: api.ExpQuote, Const: api.Datum{Kind: api.DatInt, Int: n}}
}

func prim(name string, kids ...api.Expr) api.Expr {
	return api.Expr{Kind: api.ExpPrim, Name: name, Kids: kids}
}

func kind(kind int, kids ...api.Expr) api.Expr { return api.Expr{Kind: kind, Kids: kids} }

func long(d api.Datum) api.Datum {
	if d.Kind == api.DatSymbol || len(d.List) > 0 && d.List[0].Text == "quote" {
		return d
	}
	if len(d.List) == 0 {
		return list(symbol("quote"), d)
	}
	first, rest := d.List[0], slices.Clone(d.List[1:])
	out := []api.Datum{first}
	switch word := first.Text; {
	case core.Arity(word) >= 0:
		out = []api.Datum{symbol("prim"), first}
	case word == "set!", word == "lambda":
		out, rest = append(out, rest[0]), rest[1:]
	case word == "let", word == "letrec", word == "fix":
		var bound []api.Datum
		for _, b := range rest[0].List {
			bound = append(bound, list(b.List[0], long(b.List[1])))
		}
		out, rest = append(out, list(bound...)), rest[1:]
	case word != "if" && word != "begin":
		out, rest = []api.Datum{symbol("call")}, d.List
	}
	for _, item := range rest {
		out = append(out, long(item))
	}
	return list(out...)
}

// textOf is an expression for a test's eye, however deep it is.
func textOf(e api.Expr) string {
	d, wrong := core.Data(e)
	if wrong != api.OK {
		return fmt.Sprintf("an expression that may not be (%v)", wrong)
	}
	return textOfDatum(d)
}

func textOfDatum(d api.Datum) string {
	if len(d.List) == 0 {
		s, _ := data.Text(d)
		return s
	}
	var parts []string
	for _, item := range d.List {
		parts = append(parts, textOfDatum(item))
	}
	return "(" + strings.Join(parts, " ") + ")"
}

func textOfShown(o api.Outcome) string {
	s, _ := data.Text(o.Shown)
	return s
}

// told is an outcome but its steps.
func told(o api.Outcome) string { return fmt.Sprintf("%v %v %v %q", o.Err, o.Shown, o.Whole, o.Output) }

// has tells whether an expression is of a kind, or one within is.
func has(e api.Expr, kind int) bool {
	return e.Kind == kind || slices.ContainsFunc(e.Kids, func(kid api.Expr) bool { return has(kid, kind) })
}

// size is how many expressions there are, and how many within one another.
func size(e api.Expr) (expressions, within int) {
	for _, kid := range e.Kids {
		n, deep := size(kid)
		expressions += n
		within = max(within, deep)
	}
	return expressions + 1, within + 1
}

// closed has constants bound to an expression's free names.
func closed(e api.Expr, free []string, constants ...api.Expr) api.Expr {
	if len(free) == 0 {
		return e
	}
	out := api.Expr{Kind: api.ExpLet, Names: free}
	for i := range free {
		out.Kids = append(out.Kids, constants[i%len(constants)])
	}
	out.Kids = append(out.Kids, e)
	return out
}

// unsimple are the places of the kids that the chapter wants to be simple, and that aren't.
func unsimple(e api.Expr) []int {
	var out []int
	for i, kid := range e.Kids {
		isWanted := e.Kind == api.ExpCall || e.Kind == api.ExpPrim || e.Kind == api.ExpIf && i == 0
		if isWanted && kid.Kind != api.ExpQuote && kid.Kind != api.ExpRef {
			out = append(out, i)
		}
	}
	return out
}

func isNamed(e api.Expr) bool {
	return len(unsimple(e)) == 0 && !slices.ContainsFunc(e.Kids, func(kid api.Expr) bool { return !isNamed(kid) })
}

// enough steps for most; what takes more is not looked at.
const enough = 5000

// wantNamed is P13.1 and P13.2 of an expression that may be handed in, is not too big, and never goes back to a continuation that was left; it tells what Name made of it.
func wantNamed(t *testing.T, e api.Expr, input string) api.Expr {
	t.Helper()
	return wantNamedIn(t, e, input, func(want api.Outcome, _ api.Expr) int { return 4*want.Steps + 4 })
}

// wantNamedBack is the same of one that goes back to continuations. What a call or a primitive asks for is asked for each time that it is done, so the bound on steps can't be held by anything that is named (see TestBackInSteps): but it takes no more than by the chapter's way.
func wantNamedBack(t *testing.T, e api.Expr, input string) api.Expr {
	t.Helper()
	return wantNamedIn(t, e, input, func(_ api.Outcome, other api.Expr) int { return model.Run(other, input, api.MaxSteps).Steps })
}

func wantNamedIn(t *testing.T, e api.Expr, input string, steps func(want api.Outcome, other api.Expr) int) api.Expr {
	t.Helper()
	was := fmt.Sprint(e)
	out, wrong := Name(e)
	if wrong != api.OK || core.Check(out) != api.OK {
		t.Fatalf("Name(%s): %v, which is %v", textOf(e), wrong, core.Check(out))
	}
	free := core.Free(e)
	if !isNamed(out) || has(out, api.ExpRec) || has(out, api.ExpSet) || !slices.Equal(core.Free(out), free) {
		t.Fatalf("Name(%s): %s", textOf(e), textOf(out))
	}
	if isNamed(e) && !core.Equal(e, out) {
		t.Fatalf("Name(%s): %s, but it was named", textOf(e), textOf(out))
	}
	again, wrong := Name(out)
	if wrong != api.OK || !core.Equal(again, out) {
		t.Fatalf("Name(%s): %v, %s", textOf(out), wrong, textOf(again))
	}
	if fmt.Sprint(e) != was {
		t.Fatalf("Name changes %s", textOf(e))
	}
	other := otherName(e)
	for _, constants := range [][]api.Expr{{number(3), number(-1)}, {of("#f"), of("'()")}, {of("#\\a"), of("#t"), of("'car")}} {
		a, b := closed(e, free, constants...), closed(out, free, constants...)
		want := model.Run(a, input, enough)
		// An expression that just may be may not be any more when its free names are bound.
		if want.Err == api.ErrRunSteps || core.Check(a) != api.OK || core.Check(b) != api.OK {
			continue
		}
		if got := model.Run(b, input, steps(want, closed(other, free, constants...))); told(got) != told(want) {
			got = model.Run(b, input, api.MaxSteps)
			t.Fatalf("%s: %s in %d steps; what was made, %s: %s in %d", textOf(a), told(want), want.Steps, textOf(b), told(got), got.Steps)
		}
	}
	return out
}

// wantForm is that an expression may not be handed in.
func wantForm(t *testing.T, e api.Expr) {
	t.Helper()
	if out, wrong := Name(e); wrong != api.ErrPassForm || !core.Equal(out, api.Expr{}) {
		t.Errorf("of kind %d, %.200s: %v %.200s", e.Kind, textOf(e), wrong, textOf(out))
	}
}

// memory counts how often each place of the lists in an expression is met, those behind their ends too.
type memory map[any]int

func (m memory) look(e api.Expr) {
	for i := range e.Names[:cap(e.Names)] {
		m[&e.Names[:cap(e.Names)][i]]++
	}
	for i := range e.Kids[:cap(e.Kids)] {
		m[&e.Kids[:cap(e.Kids)][i]]++
	}
	for i := range e.Const.List[:cap(e.Const.List)] {
		m[&e.Const.List[:cap(e.Const.List)][i]]++
	}
	for _, kid := range e.Kids {
		m.look(kid)
	}
}

func (m memory) isShared() bool {
	for _, times := range m {
		if times > 1 {
			return true
		}
	}
	return false
}
