package flow

import (
	"fmt"
	"scrimshaw/api"
	"scrimshaw/core"
	"scrimshaw/data"
	"scrimshaw/lift"
	"scrimshaw/model"
	"scrimshaw/read"
	"scrimshaw/vm"
	"slices"
	"strings"
	"testing"
)

// of is the expression that a text says; there 5, #t stand for (quote 5), (quote #t), and (f x), (car x) for (call f x), (prim car x); (clo 1 x y) is an ExpClo.
func of(s string) api.Expr { return made(dataOf(s, 1)[0]) }

func dataOf(s string, many int) []api.Datum {
	l, _, wrong := read.Read(s)
	if wrong != api.OK || len(l) != many {
		panic("not so many data: " + s)
	}
	return l
}

func made(d api.Datum) api.Expr {
	if d.Kind == api.DatSymbol {
		return ref(d.Text)
	}
	if d.Kind != api.DatList || len(d.List) == 0 {
		return api.Expr{Const: d}
	}
	first, rest := d.List[0], d.List[1:]
	switch word := first.Text; {
	case core.Arity(word) >= 0:
		return prim(word, madeAll(rest)...)
	case word == "quote":
		return api.Expr{Const: rest[0]}
	case word == "clo":
		return clo(rest[0].Int, texts(rest[1:])...)
	case word == "lambda":
		return api.Expr{Kind: api.ExpLam, Names: texts(rest[0].List), Kids: madeAll(rest[1:])}
	case word == "let":
		return binding(api.ExpLet, rest)
	case word == "fix":
		return binding(api.ExpFix, rest)
	case word == "if":
		return kind(api.ExpIf, madeAll(rest)...)
	case word == "begin":
		return kind(api.ExpSeq, madeAll(rest)...)
	}
	return kind(api.ExpCall, madeAll(d.List)...)
}

func binding(kind int, rest []api.Datum) api.Expr {
	out := api.Expr{Kind: kind}
	for _, b := range rest[0].List {
		out.Names, out.Kids = append(out.Names, b.List[0].Text), append(out.Kids, made(b.List[1]))
	}
	out.Kids = append(out.Kids, madeAll(rest[1:])...)
	return out
}

func madeAll(l []api.Datum) []api.Expr {
	var out []api.Expr
	for _, d := range l {
		out = append(out, made(d))
	}
	return out
}

func texts(l []api.Datum) []string {
	var out []string
	for _, d := range l {
		out = append(out, d.Text)
	}
	return out
}

func number(n int) api.Expr { return api.Expr{Const: api.Datum{Kind: api.DatInt, Int: n}} }

func ref(name string) api.Expr { return api.Expr{Kind: api.ExpRef, Name: name} }

func prim(name string, kids ...api.Expr) api.Expr {
	return api.Expr{Kind: api.ExpPrim, Name: name, Kids: kids}
}

func kind(kind int, kids ...api.Expr) api.Expr { return api.Expr{Kind: kind, Kids: kids} }

// let binds each name to its kid; the last kid is the body.
func let(names []string, kids ...api.Expr) api.Expr {
	return api.Expr{Kind: api.ExpLet, Names: names, Kids: kids}
}

func clo(place int, names ...string) api.Expr {
	return api.Expr{Kind: api.ExpClo, Const: api.Datum{Kind: api.DatInt, Int: place}, Names: names}
}

// program is of Main's text, and one of each Fun's Params, Frees and Body: `(y) (x) (clo 1 x y)`.
func program(main string, funs ...string) api.Lifted {
	l := api.Lifted{Main: of(main)}
	for _, s := range funs {
		d := dataOf(s, 3)
		l.Funs = append(l.Funs, api.Fun{Params: texts(d[0].List), Frees: texts(d[1].List), Body: made(d[2])})
	}
	return l
}

// lifted is what Lift makes of an expression that may be handed in.
func lifted(e api.Expr) api.Lifted {
	l, wrong := lift.Lift(e)
	if wrong != api.OK {
		panic(fmt.Sprint("not lifted: ", wrong))
	}
	return l
}

// manyNames are so many names.
func manyNames(n int) []string {
	var out []string
	for i := range n {
		out = append(out, fmt.Sprint("x", i))
	}
	return out
}

// numbers are so many, from a first one on.
func numbers(from, n int) []api.Expr {
	var out []api.Expr
	for i := range n {
		out = append(out, number(from+i))
	}
	return out
}

func refs(names []string) []api.Expr {
	var out []api.Expr
	for _, name := range names {
		out = append(out, ref(name))
	}
	return out
}

// clone is a program in new memory, all of it as it was.
func clone(l api.Lifted) api.Lifted {
	out := api.Lifted{Main: cloneExpr(l.Main)}
	for _, f := range l.Funs {
		out.Funs = append(out.Funs, api.Fun{Params: slices.Clone(f.Params), Frees: slices.Clone(f.Frees), Body: cloneExpr(f.Body)})
	}
	return out
}

func cloneExpr(e api.Expr) api.Expr {
	out := e
	out.Names, out.Const.List, out.Kids = slices.Clone(e.Names), slices.Clone(e.Const.List), nil
	for _, kid := range e.Kids {
		out.Kids = append(out.Kids, cloneExpr(kid))
	}
	return out
}

// textOf is an expression for a test's eye.
func textOf(e api.Expr) string {
	s, _ := data.Text(e.Const)
	parts := []string{[]string{"", "", "set! ", "if", "begin", "lambda ", "call", "", "let ", "letrec ", "fix ", "clo "}[e.Kind] + e.Name}
	switch e.Kind {
	case api.ExpQuote:
		return "'" + s
	case api.ExpRef:
		return e.Name
	case api.ExpClo:
		parts[0] += s
	}
	if len(e.Names) > 0 {
		parts = append(parts, "["+strings.Join(e.Names, " ")+"]")
	}
	for _, kid := range e.Kids {
		parts = append(parts, textOf(kid))
	}
	return "(" + strings.Join(parts, " ") + ")"
}

func textOfProgram(l api.Lifted) string {
	var out strings.Builder
	out.WriteString(textOf(l.Main))
	for i, f := range l.Funs {
		fmt.Fprintf(&out, "; %d: %v %v %s", i, f.Params, f.Frees, textOf(f.Body))
	}
	return out.String()
}

// textOfCode is a code for a test's eye: each function's params, holds, registers, and its blocks.
func textOfCode(c api.Code) string {
	var out []string
	for _, p := range c.Procs {
		s := fmt.Sprint(p.Params, " ", p.Holds, " ", p.Regs, ":")
		for _, b := range p.Blocks {
			for _, i := range b.Ins {
				s += " " + textOfIns(i)
			}
			s += " " + textOfEnd(b.End) + ";"
		}
		out = append(out, s)
	}
	return strings.Join(out, "\n")
}

func textOfIns(i api.Ins) string {
	args := []any{}
	switch i.Op {
	case "const":
		s, _ := data.Text(i.Const)
		args = append(args, s)
	case "held", "closure", "tie":
		args = append(args, i.Num)
	}
	for _, reg := range i.Args {
		args = append(args, reg)
	}
	to := fmt.Sprint(i.To, "=")
	if i.Op == "tie" {
		to = ""
	}
	return to + i.Op + fmt.Sprint(args)
}

func textOfEnd(e api.End) string {
	switch e.Kind {
	case api.EndJump:
		return fmt.Sprint("jump ", e.Next)
	case api.EndIf:
		return fmt.Sprint("if ", e.Reg, " ", e.Next, " ", e.Else)
	case api.EndReturn:
		return fmt.Sprint("return ", e.Reg)
	case api.EndTail:
		return fmt.Sprint("tail ", e.Reg, e.Args)
	case api.EndCall:
		return fmt.Sprint(e.To, "=call ", e.Reg, e.Args, " ", e.Next)
	case api.EndTailCC:
		return fmt.Sprint("tailcc ", e.Reg)
	}
	return fmt.Sprint(e.To, "=callcc ", e.Reg, " ", e.Next)
}

// told is how a run ended, but its steps.
func told(o api.Outcome) string {
	s, _ := data.Text(o.Shown)
	return fmt.Sprintf("%d %q %s %t", o.Err, o.Output, s, o.Whole)
}

// enough steps are for a run of a lowered program.
const enough = 4000

// wantFlow is P16.1 and P16.2 of a program that is lifted, and has a code, with some inputs; it tells the code.
func wantFlow(t *testing.T, l api.Lifted, inputs ...string) api.Code {
	t.Helper()
	was := clone(l)
	c, wrong := Flow(l)
	if wrong != api.OK {
		t.Fatalf("%.2000s: %v", textOfProgram(l), wrong)
	}
	wantCode(t, l, c)
	for _, input := range append(inputs, "") {
		wantSame(t, l, c, input)
	}
	if textOfProgram(l) != textOfProgram(was) {
		t.Errorf("changed: %.2000s", textOfProgram(was))
	}
	return c
}

// wantCode is what a code promises by its form.
func wantCode(t *testing.T, l api.Lifted, c api.Code) {
	t.Helper()
	funs := append([]api.Fun{{Body: l.Main}}, l.Funs...)
	if wrong := vm.Check(c); wrong != api.OK || len(c.Procs) != len(funs) {
		t.Fatalf("%.2000s: %v\n%.2000s", textOfProgram(l), wrong, textOfCode(c))
	}
	want, got := ends{}, ends{}
	for i, f := range funs {
		p := c.Procs[i]
		if p.Params != len(f.Params) || p.Holds != len(f.Frees) {
			t.Errorf("%.2000s: the function %d: %.500s", textOfProgram(l), i, textOfCode(c))
		}
		mine, its := endsOf(f.Body), endsIn(p)
		if mine != its {
			t.Errorf("%.2000s: the function %d ends in %v, and has %v:\n%.2000s", textOfProgram(l), i, mine, its, textOfCode(c))
		}
		want, got = want.and(mine), got.and(its)
		if reg := unfilled(p); reg >= 0 {
			t.Errorf("%.2000s: the function %d reads %d ahead of filling it:\n%.2000s", textOfProgram(l), i, reg, textOfCode(c))
		}
	}
	if want != got {
		t.Errorf("%.2000s: %v, %v", textOfProgram(l), want, got)
	}
}

// wantSame is that the code's run ends as that of the lowered program, in as many steps as it may take.
func wantSame(t *testing.T, l api.Lifted, c api.Code, input string) {
	t.Helper()
	e, wrong := lift.Lower(l)
	if wrong != api.OK {
		t.Fatal(wrong)
	}
	want := model.Run(e, input, enough)
	if want.Err == api.ErrRunSteps {
		return
	}
	if got := vm.Run(c, input, mostSteps(l, want.Steps)); told(got) != told(want) {
		t.Errorf("%.2000s: %s in %d steps, want %s in %d:\n%.2000s", textOfProgram(l), told(got), got.Steps, told(want), want.Steps, textOfCode(c))
	}
}

// mostSteps is how many a code may take where the lowered program takes so many.
func mostSteps(l api.Lifted, steps int) int {
	most := 0
	for _, f := range l.Funs {
		most = max(most, len(f.Frees))
	}
	return min((8+3*most)*steps+8, api.MaxSteps)
}

// wantRun is that a program's code runs to an end that is told.
func wantRun(t *testing.T, l api.Lifted, input, want string) api.Code {
	t.Helper()
	c := wantFlow(t, l, input)
	if got := told(vm.Run(c, input, api.MaxSteps)); got != want {
		t.Errorf("%.2000s: %s, want %s", textOfProgram(l), got, want)
	}
	return c
}

// wantWrong is of a program that has no code.
func wantWrong(t *testing.T, l api.Lifted, want api.Errno, what ...any) {
	t.Helper()
	if c, wrong := Flow(l); wrong != want || len(c.Procs) > 0 {
		t.Errorf("%v: %v, %d functions; want %v", what, wrong, len(c.Procs), want)
	}
}
