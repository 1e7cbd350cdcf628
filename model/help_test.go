package model

import (
	"scrimshaw/api"
	"scrimshaw/core"
	"scrimshaw/data"
	"scrimshaw/expand"
	"scrimshaw/read"
	"strconv"
	"strings"
	"testing"
)

func quote(d api.Datum) api.Expr { return api.Expr{Kind: api.ExpQuote, Const: d} }
func number(n int) api.Expr      { return quote(api.Datum{Kind: api.DatInt, Int: n}) }
func ref(s string) api.Expr      { return api.Expr{Kind: api.ExpRef, Name: s} }
func set(s string, kid api.Expr) api.Expr {
	return api.Expr{Kind: api.ExpSet, Name: s, Kids: kids(kid)}
}
func cond(l ...api.Expr) api.Expr { return api.Expr{Kind: api.ExpIf, Kids: l} }
func seq(l ...api.Expr) api.Expr  { return api.Expr{Kind: api.ExpSeq, Kids: l} }
func call(l ...api.Expr) api.Expr { return api.Expr{Kind: api.ExpCall, Kids: l} }
func prim(s string, l ...api.Expr) api.Expr {
	return api.Expr{Kind: api.ExpPrim, Name: s, Kids: l}
}
func binding(kind int, names []string, l ...api.Expr) api.Expr {
	return api.Expr{Kind: kind, Names: names, Kids: l}
}
func lam(names []string, body api.Expr) api.Expr { return binding(api.ExpLam, names, body) }
func names(l ...string) []string                 { return l }
func kids(l ...api.Expr) []api.Expr              { return l }

// datum is the one that a text says.
func datum(s string) api.Datum {
	l, at, e := read.Read(s)
	if len(l) != 1 || e != api.OK {
		panic("no datum: " + s + " at " + strconv.Itoa(at))
	}
	return l[0]
}

// of is the expression of a datum's text, in which a number stands for its ExpQuote, and what begins with a letter in brackets for a call or a primitive's use.
func of(s string) api.Expr {
	e, err := core.Make(full(datum(s)))
	if err != api.OK {
		panic("no expression: " + s)
	}
	return e
}

// full is the datum of an expression that was written shorter than chapter 6 has it.
func full(d api.Datum) api.Datum {
	if d.Kind == api.DatInt || d.Kind == api.DatBool || d.Kind == api.DatChar {
		return data.Make([]api.Datum{word("quote"), d}, api.Datum{Kind: api.DatList})
	}
	if d.Kind != api.DatList || len(d.List) == 0 || d.List[0].Text == "quote" {
		return d
	}
	out := api.Datum{Kind: api.DatList}
	head := d.List[0]
	rest := d.List[1:]
	switch {
	case core.Arity(head.Text) >= 0:
		out.List = append(out.List, word("prim"), head)
	case head.Text == "set!" || head.Text == "lambda":
		out.List = append(out.List, head, rest[0])
		rest = rest[1:]
	case head.Text == "let" || head.Text == "letrec" || head.Text == "fix":
		var bound []api.Datum
		for _, b := range rest[0].List {
			bound = append(bound, api.Datum{Kind: api.DatList, List: []api.Datum{b.List[0], full(b.List[1])}})
		}
		out.List = append(out.List, head, api.Datum{Kind: api.DatList, List: bound})
		rest = rest[1:]
	case head.Text == "if" || head.Text == "begin":
		out.List = append(out.List, head)
	default:
		out.List = append(out.List, word("call"), full(head))
	}
	for _, item := range rest {
		out.List = append(out.List, full(item))
	}
	return out
}

func word(s string) api.Datum { return api.Datum{Kind: api.DatSymbol, Text: s} }

// program is the expression of a program's source.
func program(t *testing.T, source string) api.Expr {
	t.Helper()
	l, at, wrong := read.Read(source)
	if wrong != api.OK {
		t.Fatalf("%s: at %d: %v", source, at, wrong)
	}
	e, at, wrong := expand.Program(l, api.MaxFuel)
	if wrong != api.OK {
		t.Fatalf("%s: of %d: %v", source, at, wrong)
	}
	return e
}

// raw tells all of a datum, field by field.
func raw(d api.Datum) string {
	var out strings.Builder
	out.WriteString("{" + strconv.Itoa(d.Kind) + " " + strconv.Itoa(d.Int) + " " + strconv.Quote(d.Text))
	for _, item := range d.List {
		out.WriteString(" " + raw(item))
	}
	out.WriteString("}")
	return out.String()
}

// rawExpr tells all of an expression, field by field.
func rawExpr(e api.Expr) string {
	var out strings.Builder
	out.WriteString("<" + strconv.Itoa(e.Kind) + " " + e.Name + " [" + strings.Join(e.Names, " ") + "] " + raw(e.Const))
	for _, kid := range e.Kids {
		out.WriteString(" " + rawExpr(kid))
	}
	return out.String() + ">"
}

// told is all of an outcome, for a test's eye.
func told(o api.Outcome) string {
	shown := raw(o.Shown)
	if s, wrong := data.Text(o.Shown); wrong == api.OK && o.Whole {
		shown = s
	}
	return strconv.Itoa(int(o.Err)) + " " + shown + " " + strconv.FormatBool(o.Whole) + " " + strconv.Quote(o.Output) + " " + strconv.Itoa(o.Steps)
}

// outcome is one whose value shows what a text says, or, with an empty text, one that ends with an error.
func outcome(wrong api.Errno, shown, output string, steps int) api.Outcome {
	o := api.Outcome{Err: wrong, Output: output, Steps: steps}
	if shown != "" {
		o.Shown, o.Whole = datum(shown), true
	}
	return o
}

func wantOutcome(t *testing.T, e api.Expr, input string, steps int, want api.Outcome) {
	t.Helper()
	was := rawExpr(e)
	if got := Run(e, input, steps); told(got) != told(want) {
		t.Errorf("Run(%.300s, %.50q, %d): %s; want %s", textOf(e), input, steps, told(got), told(want))
	}
	if rawExpr(e) != was {
		t.Errorf("Run changes %.300s", was)
	}
}

// textOf is an expression's datum, for a test's eye.
func textOf(e api.Expr) string {
	d, wrong := core.Data(e)
	if wrong != api.OK {
		return "an expression that may not be"
	}
	s, wrong := data.Text(d)
	if wrong != api.OK {
		return rawExpr(e)
	}
	return s
}

// wantValue is of an expression in the short form: what its value shows, and how many steps it takes.
func wantValue(t *testing.T, s, shown string, steps int) {
	t.Helper()
	wantWritten(t, s, "", shown, "", steps)
}

// wantWritten is likewise with an input and an output.
func wantWritten(t *testing.T, s, input, shown, output string, steps int) {
	t.Helper()
	e := of(s)
	wantOutcome(t, e, input, api.MaxSteps, outcome(api.OK, shown, output, steps))
	wantOutcome(t, e, input, steps, outcome(api.OK, shown, output, steps))
	wantShort(t, e, input, output, steps)
}

// wantShown is of an expression whose steps are told nowhere.
func wantShown(t *testing.T, e api.Expr, input, shown, output string) {
	t.Helper()
	wantOutcome(t, e, input, api.MaxSteps, outcome(api.OK, shown, output, Run(e, input, api.MaxSteps).Steps))
}

// wantWrong is of an expression that ends with an error, after so many steps.
func wantWrong(t *testing.T, s, input string, wrong api.Errno, output string, steps int) {
	t.Helper()
	e := of(s)
	wantOutcome(t, e, input, api.MaxSteps, outcome(wrong, "", output, steps))
	wantOutcome(t, e, input, steps, outcome(wrong, "", output, steps))
	wantShort(t, e, input, output, steps)
}

// wantShort is of a run that takes so many steps: with each lower number it ends with that, and has written a beginning of the output, the longer the more steps there are.
func wantShort(t *testing.T, e api.Expr, input, output string, steps int) {
	t.Helper()
	least := 0
	for n := range min(steps, 300) {
		got := Run(e, input, n)
		if want := outcome(api.ErrRunSteps, "", got.Output, n); told(got) != told(want) || !strings.HasPrefix(output, got.Output) || len(got.Output) < least {
			t.Errorf("Run(%.300s, %.50q, %d): %s; want %s, the output a beginning of %q", textOf(e), input, n, told(got), told(want), output)
			return
		}
		least = len(got.Output)
	}
}
