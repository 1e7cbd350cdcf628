package fold

import (
	"fmt"
	"scrimshaw/api"
	"scrimshaw/core"
	"scrimshaw/data"
	"scrimshaw/heap"
	"scrimshaw/model"
	"scrimshaw/read"
	"slices"
	"strings"
	"testing"
)

// of is the expression that a text says; there 5, #t stand for (quote 5), (quote #t), and (f x), (car x) for (call f x), (prim car x).
func of(s string) api.Expr {
	l, _, wrong := read.Read(s)
	if wrong != api.OK || len(l) != 1 {
		panic("no datum: " + s)
	}
	e, wrong := core.Make(long(l[0]))
	if wrong != api.OK {
		panic("no expression: " + s)
	}
	return e
}

func list(l ...api.Datum) api.Datum { return api.Datum{Kind: api.DatList, List: l} }
func symbol(s string) api.Datum     { return api.Datum{Kind: api.DatSymbol, Text: s} }
func ref(name string) api.Expr      { return api.Expr{Kind: api.ExpRef, Name: name} }

func number(n int) api.Expr {
	return api.Expr{Kind: api.ExpQuote, Const: api.Datum{Kind: api.DatInt, Int: n}}
}

func prim(name string, kids ...api.Expr) api.Expr {
	return api.Expr{Kind: api.ExpPrim, Name: name, Kids: kids}
}

func kind(kind int, kids ...api.Expr) api.Expr { return api.Expr{Kind: kind, Kids: kids} }

func long(d api.Datum) api.Datum {
	if d.Kind == api.DatSymbol || len(d.List) > 0 && d.List[0].Text == "quote" {
		return d
	}
	if len(d.List) == 0 {
		return list(symbol("quote"), d)
	}
	first, rest := d.List[0], slices.Clone(d.List[1:])
	out := []api.Datum{first}
	switch word := first.Text; {
	case core.Arity(word) >= 0:
		out = []api.Datum{symbol("prim"), first}
	case word == "set!", word == "lambda":
		out, rest = append(out, rest[0]), rest[1:]
	case word == "let", word == "letrec", word == "fix":
		var bound []api.Datum
		for _, b := range rest[0].List {
			bound = append(bound, list(b.List[0], long(b.List[1])))
		}
		out, rest = append(out, list(bound...)), rest[1:]
	case word != "if" && word != "begin":
		out, rest = []api.Datum{symbol("call")}, d.List
	}
	for _, item := range rest {
		out = append(out, long(item))
	}
	return list(out...)
}

// textOf is an expression for a test's eye, however deep it is.
func textOf(e api.Expr) string {
	d, wrong := core.Data(e)
	if wrong != api.OK {
		return fmt.Sprintf("an expression that may not be (%v)", wrong)
	}
	return textOfDatum(d)
}

func textOfDatum(d api.Datum) string {
	if len(d.List) == 0 {
		s, _ := data.Text(d)
		return s
	}
	var parts []string
	for _, item := range d.List {
		parts = append(parts, textOfDatum(item))
	}
	return "(" + strings.Join(parts, " ") + ")"
}

func textOfShown(o api.Outcome) string {
	s, _ := data.Text(o.Shown)
	return s
}

// told is an outcome but its steps.
func told(o api.Outcome) string { return fmt.Sprintf("%v %v %v %q", o.Err, o.Shown, o.Whole, o.Output) }

// has tells whether an expression is of a kind, or one within is.
func has(e api.Expr, kind int) bool {
	return e.Kind == kind || slices.ContainsFunc(e.Kids, func(kid api.Expr) bool { return has(kid, kind) })
}

// size is how many expressions there are.
func size(e api.Expr) int {
	n := 1
	for _, kid := range e.Kids {
		n += size(kid)
	}
	return n
}

// ready is the chapter's list.
var ready = strings.Fields("+ - * quotient remainder < = eq? null? symbol? char? integer? boolean? pair? vector? string? procedure? char->integer integer->char")

// isReady is the chapter's word of a primitive, and tells what comes of it.
func isReady(e api.Expr) (api.Datum, bool) {
	if e.Kind != api.ExpPrim || !slices.Contains(ready, e.Name) {
		return api.Datum{}, false
	}
	h := heap.New()
	var args []api.Val
	for _, kid := range e.Kids {
		v, is := heap.Const(kid.Const)
		if kid.Kind != api.ExpQuote || !is {
			return api.Datum{}, false
		}
		args = append(args, v)
	}
	v, wrong := h.Do(e.Name, args)
	if wrong != api.OK {
		return api.Datum{}, false
	}
	return h.Tell(v)
}

func isLeaf(e api.Expr) bool {
	return e.Kind == api.ExpQuote || e.Kind == api.ExpRef || e.Kind == api.ExpLam
}

// isAssigned tells whether a name that is bound around an expression is set there.
func isAssigned(name string, e api.Expr) bool {
	if e.Kind == api.ExpSet && e.Name == name {
		return true
	}
	kids := e.Kids
	if slices.Contains(e.Names, name) {
		if e.Kind != api.ExpLet {
			return false
		}
		kids = kids[:len(kids)-1]
	}
	return slices.ContainsFunc(kids, func(kid api.Expr) bool { return isAssigned(name, kid) })
}

// unfolded is the first thing within an expression that the chapter doesn't let be in one that is folded.
func unfolded(e api.Expr) string {
	last := len(e.Kids) - 1
	switch e.Kind {
	case api.ExpPrim:
		if _, is := isReady(e); is {
			return "ready: " + textOf(e)
		}
	case api.ExpIf:
		if e.Kids[0].Kind == api.ExpQuote {
			return "known: " + textOf(e)
		}
	case api.ExpSeq:
		for i, kid := range e.Kids {
			if kid.Kind == api.ExpSeq || i < last && isLeaf(kid) {
				return "idle: " + textOf(e)
			}
		}
	case api.ExpLet:
		if len(e.Names) == 0 {
			return "empty: " + textOf(e)
		}
		for i, name := range e.Names {
			if e.Kids[i].Kind == api.ExpQuote && !isAssigned(name, e.Kids[last]) {
				return "constant: " + textOf(e)
			}
		}
	}
	for _, kid := range e.Kids {
		if s := unfolded(kid); s != "" {
			return s
		}
	}
	return ""
}

// closed has constants bound to an expression's free names.
func closed(e api.Expr, free []string, constants ...api.Expr) api.Expr {
	if len(free) == 0 {
		return e
	}
	out := api.Expr{Kind: api.ExpLet, Names: free}
	for i := range free {
		out.Kids = append(out.Kids, constants[i%len(constants)])
	}
	out.Kids = append(out.Kids, e)
	return out
}

// enough steps for most; what takes more is not looked at.
const enough = 5000

// wantFolded is P12.1 and P12.2 of an expression that may be handed in; it tells what Fold made of it.
func wantFolded(t *testing.T, e api.Expr, input string) api.Expr {
	t.Helper()
	was := fmt.Sprint(e)
	out, wrong := Fold(e)
	if wrong != api.OK || core.Check(out) != api.OK {
		t.Fatalf("Fold(%s): %v, which is %v", textOf(e), wrong, core.Check(out))
	}
	if s := unfolded(out); s != "" {
		t.Fatalf("Fold(%s): %s; %s", textOf(e), textOf(out), s)
	}
	free := core.Free(e)
	for _, name := range core.Free(out) {
		if !slices.Contains(free, name) {
			t.Fatalf("Fold(%s): %s, where %s is free", textOf(e), textOf(out), name)
		}
	}
	if size(out) > size(e) {
		t.Fatalf("Fold(%s): %s, which is more", textOf(e), textOf(out))
	}
	if unfolded(e) == "" && !core.Equal(e, out) {
		t.Fatalf("Fold(%s): %s, but it was folded", textOf(e), textOf(out))
	}
	again, wrong := Fold(out)
	if wrong != api.OK || !core.Equal(again, out) {
		t.Fatalf("Fold(%s): %v, %s", textOf(out), wrong, textOf(again))
	}
	for _, constants := range [][]api.Expr{{number(3), number(-1)}, {of("#f"), of("'()")}, {of("#\\a"), of("#t"), of("'car")}} {
		wantSame(t, closed(e, free, constants...), closed(out, free, constants...), input)
		if len(free) == 0 {
			break
		}
	}
	if fmt.Sprint(e) != was {
		t.Fatalf("Fold changes %s", textOf(e))
	}
	return out
}

// wantSame is that b ends as a does, in no more steps, as far as one input tells.
func wantSame(t *testing.T, a, b api.Expr, input string) {
	t.Helper()
	want := model.Run(a, input, enough)
	// An expression that just may be may not be any more when its free names are bound.
	if want.Err == api.ErrRunSteps || core.Check(a) != api.OK {
		return
	}
	if got := model.Run(b, input, want.Steps); told(got) != told(want) {
		got = model.Run(b, input, api.MaxSteps)
		t.Fatalf("%s: %s in %d steps; what was made, %s: %s in %d", textOf(a), told(want), want.Steps, textOf(b), told(got), got.Steps)
	}
}

// wantForm is that an expression may not be handed in.
func wantForm(t *testing.T, e api.Expr) {
	t.Helper()
	if out, wrong := Fold(e); wrong != api.ErrPassForm || !core.Equal(out, api.Expr{}) {
		t.Errorf("of kind %d, %.200s: %v %.200s", e.Kind, textOf(e), wrong, textOf(out))
	}
}

// memory counts how often each place of the lists in an expression is met, those behind their ends too.
type memory map[any]int

func (m memory) look(e api.Expr) {
	for i := range e.Names[:cap(e.Names)] {
		m[&e.Names[:cap(e.Names)][i]]++
	}
	for i := range e.Kids[:cap(e.Kids)] {
		m[&e.Kids[:cap(e.Kids)][i]]++
	}
	for i := range e.Const.List[:cap(e.Const.List)] {
		m[&e.Const.List[:cap(e.Const.List)][i]]++
	}
	for _, kid := range e.Kids {
		m.look(kid)
	}
}

func (m memory) isShared() bool {
	for _, times := range m {
		if times > 1 {
			return true
		}
	}
	return false
}
