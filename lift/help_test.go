package lift

import (
	"fmt"
	"scrimshaw/api"
	"scrimshaw/core"
	"scrimshaw/data"
	"scrimshaw/read"
	"slices"
	"strings"
	"testing"
)

// of is the expression that a text says, also one that may not be; there 5, #t stand for (quote 5), (quote #t), and (f x), (car x) for (call f x), (prim car x); (clo 1 x y) is an ExpClo.
func of(s string) api.Expr { return made(dataOf(s, 1)[0]) }

func dataOf(s string, many int) []api.Datum {
	l, _, wrong := read.Read(s)
	if wrong != api.OK || len(l) != many {
		panic("not so many data: " + s)
	}
	return l
}

func made(d api.Datum) api.Expr {
	if d.Kind == api.DatSymbol {
		return ref(d.Text)
	}
	if d.Kind != api.DatList || len(d.List) == 0 {
		return api.Expr{Const: d}
	}
	first, rest := d.List[0], d.List[1:]
	switch word := first.Text; {
	case core.Arity(word) >= 0:
		return api.Expr{Kind: api.ExpPrim, Name: word, Kids: madeAll(rest)}
	case word == "quote":
		return api.Expr{Const: rest[0]}
	case word == "clo":
		return api.Expr{Kind: api.ExpClo, Const: rest[0], Names: texts(rest[1:])}
	case word == "lambda":
		return api.Expr{Kind: api.ExpLam, Names: texts(rest[0].List), Kids: madeAll(rest[1:])}
	case word == "set!":
		return api.Expr{Kind: api.ExpSet, Name: rest[0].Text, Kids: madeAll(rest[1:])}
	case word == "let", word == "letrec", word == "fix":
		out := api.Expr{Kind: map[string]int{"let": api.ExpLet, "letrec": api.ExpRec, "fix": api.ExpFix}[word]}
		for _, b := range rest[0].List {
			out.Names, out.Kids = append(out.Names, b.List[0].Text), append(out.Kids, made(b.List[1]))
		}
		out.Kids = append(out.Kids, madeAll(rest[1:])...)
		return out
	case word == "if":
		return kind(api.ExpIf, madeAll(rest)...)
	case word == "begin":
		return kind(api.ExpSeq, madeAll(rest)...)
	}
	return kind(api.ExpCall, madeAll(d.List)...)
}

func madeAll(l []api.Datum) []api.Expr {
	var out []api.Expr
	for _, d := range l {
		out = append(out, made(d))
	}
	return out
}

func texts(l []api.Datum) []string {
	var out []string
	for _, d := range l {
		out = append(out, d.Text)
	}
	return out
}

func ref(name string) api.Expr { return api.Expr{Kind: api.ExpRef, Name: name} }

func kind(kind int, kids ...api.Expr) api.Expr { return api.Expr{Kind: kind, Kids: kids} }

// clo is an ExpClo.
func clo(place int, names ...string) api.Expr {
	return api.Expr{Kind: api.ExpClo, Const: api.Datum{Kind: api.DatInt, Int: place}, Names: names}
}

// program is of Main's text, and one of each Fun's Params, Frees and Body: `(y) (x) (clo 1 x y)`.
func program(main string, funs ...string) api.Lifted {
	l := api.Lifted{Main: of(main)}
	for _, s := range funs {
		d := dataOf(s, 3)
		l.Funs = append(l.Funs, api.Fun{Params: texts(d[0].List), Frees: texts(d[1].List), Body: made(d[2])})
	}
	return l
}

// clone is a program in new memory, all of it as it was.
func clone(l api.Lifted) api.Lifted {
	out := api.Lifted{Main: cloneExpr(l.Main)}
	for _, f := range l.Funs {
		out.Funs = append(out.Funs, api.Fun{Params: slices.Clone(f.Params), Frees: slices.Clone(f.Frees), Body: cloneExpr(f.Body)})
	}
	return out
}

func cloneExpr(e api.Expr) api.Expr {
	out := e
	out.Names, out.Const.List, out.Kids = slices.Clone(e.Names), slices.Clone(e.Const.List), nil
	for _, kid := range e.Kids {
		out.Kids = append(out.Kids, cloneExpr(kid))
	}
	return out
}

// isSame tells whether two programs are the same, field by field.
func isSame(a, b api.Lifted) bool {
	return core.Equal(a.Main, b.Main) && slices.EqualFunc(a.Funs, b.Funs, func(f, g api.Fun) bool {
		return slices.Equal(f.Params, g.Params) && slices.Equal(f.Frees, g.Frees) && core.Equal(f.Body, g.Body)
	})
}

// textOf is an expression for a test's eye, also one that may not be.
func textOf(e api.Expr) string {
	s, _ := data.Text(e.Const)
	parts := []string{[]string{"", "", "set! ", "if", "begin", "lambda ", "call", "", "let ", "letrec ", "fix ", "clo "}[min(max(e.Kind, 0), api.ExpClo)] + e.Name}
	switch {
	case e.Kind == api.ExpQuote && len(e.Kids)+len(e.Names) == 0:
		return "'" + s
	case e.Kind == api.ExpRef && len(e.Kids)+len(e.Names) == 0:
		return e.Name
	case e.Kind < 0 || e.Kind > api.ExpClo:
		parts[0] = fmt.Sprintf("of kind %d %s", e.Kind, e.Name)
	}
	if s != "#f" {
		parts[0] += s
	}
	if len(e.Names) > 0 {
		parts = append(parts, "["+strings.Join(e.Names, " ")+"]")
	}
	for _, kid := range e.Kids {
		parts = append(parts, textOf(kid))
	}
	return "(" + strings.Join(parts, " ") + ")"
}

func textOfProgram(l api.Lifted) string {
	var out strings.Builder
	out.WriteString(textOf(l.Main))
	for i, f := range l.Funs {
		fmt.Fprintf(&out, "; %d: %v %v %s", i, f.Params, f.Frees, textOf(f.Body))
	}
	return out.String()
}

// size is how many expressions there are, and how many within one another.
func size(e api.Expr) (expressions, within int) {
	for _, kid := range e.Kids {
		n, deep := size(kid)
		expressions += n
		within = max(within, deep)
	}
	return expressions + 1, within + 1
}

// has tells whether an expression is of a kind, or one within is.
func has(e api.Expr, kind int) bool {
	return e.Kind == kind || slices.ContainsFunc(e.Kids, func(kid api.Expr) bool { return has(kid, kind) })
}

// wantLifted is P14.2 and P14.3 of an expression that may be handed in; it tells what Lift made of it.
func wantLifted(t *testing.T, e api.Expr) api.Lifted {
	t.Helper()
	was := fmt.Sprint(e)
	l, wrong := Lift(e)
	if wrong != api.OK {
		t.Fatalf("Lift(%s): %v", textOf(e), wrong)
	}
	if other := otherLift(e); !isSame(l, other) {
		t.Fatalf("Lift(%s): %s; the other way %s", textOf(e), textOfProgram(l), textOfProgram(other))
	}
	if back := wantRight(t, l); !core.Equal(back, e) {
		t.Fatalf("Lift(%s): %s; lowered it is %s", textOf(e), textOfProgram(l), textOf(back))
	}
	if fmt.Sprint(e) != was {
		t.Fatalf("Lift changes %s", textOf(e))
	}
	return l
}

// wantNotLifted is that an expression may not be handed in.
func wantNotLifted(t *testing.T, e api.Expr) {
	t.Helper()
	if l, wrong := Lift(e); wrong != api.ErrPassForm || !isSame(l, api.Lifted{}) {
		t.Errorf("of kind %d: %v %.200s", e.Kind, wrong, textOfProgram(l))
	}
}

// wantRight is P14.1 and P14.3 of a program that is lifted; it tells what Lower made of it.
func wantRight(t *testing.T, l api.Lifted) api.Expr {
	t.Helper()
	was := fmt.Sprint(l)
	if wrong := Check(l); wrong != api.OK {
		t.Fatalf("Check(%s): %v", textOfProgram(l), wrong)
	}
	e, wrong := Lower(l)
	if wrong != api.OK || core.Check(e) != api.OK || len(core.Free(e)) > 0 || has(e, api.ExpRec) || has(e, api.ExpSet) {
		t.Fatalf("Lower(%s): %v %s", textOfProgram(l), wrong, textOf(e))
	}
	if fmt.Sprint(l) != was {
		t.Fatalf("Check or Lower changes %s", textOfProgram(l))
	}
	again, wrong := Lift(e)
	if wrong != api.OK || isInOrder(l) != isSame(again, l) {
		t.Fatalf("%s becomes %s, and that %v %s", textOfProgram(l), textOf(e), wrong, textOfProgram(again))
	}
	return e
}

// wantWrong is that a program may not be handed in.
func wantWrong(t *testing.T, l api.Lifted, want api.Errno) {
	t.Helper()
	if wrong := Check(l); wrong != want {
		t.Errorf("Check, of %d Funs, Main of kind %d: %v, want %v", len(l.Funs), l.Main.Kind, wrong, want)
	}
	if e, wrong := Lower(l); wrong != want || !core.Equal(e, api.Expr{}) {
		t.Errorf("Lower, of %d Funs, Main of kind %d: %v, want %v", len(l.Funs), l.Main.Kind, wrong, want)
	}
}

// memory counts how often each place of the lists in an expression, or a program, is met, those behind their ends too.
type memory map[any]int

func (m memory) look(e api.Expr) {
	m.lookNames(e.Names)
	for i := range e.Kids[:cap(e.Kids)] {
		m[&e.Kids[:cap(e.Kids)][i]]++
	}
	for i := range e.Const.List[:cap(e.Const.List)] {
		m[&e.Const.List[:cap(e.Const.List)][i]]++
	}
	for _, kid := range e.Kids {
		m.look(kid)
	}
}

func (m memory) lookNames(l []string) {
	for i := range l[:cap(l)] {
		m[&l[:cap(l)][i]]++
	}
}

func (m memory) lookProgram(l api.Lifted) {
	m.look(l.Main)
	for i := range l.Funs[:cap(l.Funs)] {
		m[&l.Funs[:cap(l.Funs)][i]]++
	}
	for _, f := range l.Funs {
		m.lookNames(f.Params)
		m.lookNames(f.Frees)
		m.look(f.Body)
	}
}

func (m memory) isShared() bool {
	for _, times := range m {
		if times > 1 {
			return true
		}
	}
	return false
}
