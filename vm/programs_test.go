package vm

import (
	"maps"
	"scrimshaw/api"
	"scrimshaw/box"
	"scrimshaw/expand"
	"scrimshaw/fix"
	"scrimshaw/lift"
	"scrimshaw/model"
	"scrimshaw/read"
	"scrimshaw/samples"
	"slices"
	"strings"
	"testing"
)

// Whole programs: their code, laid as plainly as may be, runs as chapter 9 tells of them.

// layer lays one function; each value has a register of its own.
type layer struct {
	proc  api.Proc
	at    int // the block
	frees []string
}

// laid is the code of a program.
func laid(l api.Lifted) api.Code {
	c := code(laidOne(nil, nil, l.Main))
	for _, f := range l.Funs {
		c.Procs = append(c.Procs, laidOne(f.Params, f.Frees, f.Body))
	}
	return c
}

func laidOne(params, frees []string, body api.Expr) api.Proc {
	l := layer{proc: proc(len(params), len(frees), len(params), api.Block{}), frees: frees}
	names := map[string]int{}
	for reg, name := range params {
		names[name] = reg
	}
	l.last(body, names)
	return l.proc
}

func (l *layer) register() int {
	l.proc.Regs++
	return l.proc.Regs - 1
}

func (l *layer) put(i api.Ins) int {
	b := &l.proc.Blocks[l.at]
	b.Ins = append(b.Ins, i)
	return i.To
}

// end ends the block; what follows is laid in a new one, which the end may lead to.
func (l *layer) end(e api.End) {
	l.proc.Blocks[l.at].End = e
	l.proc.Blocks = append(l.proc.Blocks, api.Block{})
	l.at = len(l.proc.Blocks) - 1
}

func (l *layer) next() int { return len(l.proc.Blocks) }

func (l *layer) values(kids []api.Expr, names map[string]int) []int {
	var out []int
	for _, kid := range kids {
		out = append(out, l.value(kid, names))
	}
	return out
}

// value is the register of an expression's value.
func (l *layer) value(e api.Expr, names map[string]int) int {
	switch e.Kind {
	case api.ExpQuote:
		return l.put(api.Ins{Op: "const", To: l.register(), Const: e.Const})
	case api.ExpRef:
		if reg, is := names[e.Name]; is {
			return reg
		}
		return l.put(held(l.register(), slices.Index(l.frees, e.Name)))
	case api.ExpClo:
		var holds []api.Expr
		for _, name := range e.Names {
			holds = append(holds, api.Expr{Kind: api.ExpRef, Name: name})
		}
		return l.put(closure(l.register(), e.Const.Int+1, l.values(holds, names)...))
	case api.ExpIf:
		return l.branches(e, names)
	case api.ExpCall:
		regs := l.values(e.Kids, names)
		to := l.register()
		l.end(calls(to, l.next(), regs[0], regs[1:]...))
		return to
	case api.ExpPrim:
		regs := l.values(e.Kids, names)
		to := l.register()
		if e.Name == "%callcc" {
			l.end(callCC(to, l.next(), regs[0]))
			return to
		}
		return l.put(do(e.Name, to, regs...))
	}
	body, names := l.ahead(e, names)
	return l.value(body, names)
}

// branches is of an ExpIf whose value is wanted: it is moved to one register in both.
func (l *layer) branches(e api.Expr, names map[string]int) int {
	to, test, from := l.register(), l.value(e.Kids[0], names), l.at
	l.end(api.End{})
	then := l.at
	l.put(move(to, l.value(e.Kids[1], names)))
	thenEnds := l.at
	l.end(api.End{})
	other := l.at
	l.put(move(to, l.value(e.Kids[2], names)))
	l.end(jump(l.next()))
	l.proc.Blocks[from].End, l.proc.Blocks[thenEnds].End = ifs(test, then, other), jump(l.at)
	return to
}

// ahead lays all but the body, and tells that, and the names in it.
func (l *layer) ahead(e api.Expr, names map[string]int) (api.Expr, map[string]int) {
	last := len(e.Kids) - 1
	inner := maps.Clone(names)
	if e.Kind == api.ExpFix {
		// Each closure is tied to the others when all of them are there.
		for i := range last {
			inner[e.Names[i]] = l.register()
		}
		for i, kid := range e.Kids[:last] {
			l.put(move(inner[e.Names[i]], l.value(kid, inner)))
		}
		for i, kid := range e.Kids[:last] {
			for at, name := range kid.Names {
				l.put(tie(at, inner[e.Names[i]], l.value(api.Expr{Kind: api.ExpRef, Name: name}, inner)))
			}
		}
		return e.Kids[last], inner
	}
	for i, reg := range l.values(e.Kids[:last], names) {
		if e.Kind == api.ExpLet {
			inner[e.Names[i]] = reg
		}
	}
	return e.Kids[last], inner
}

// last lays an expression whose value is the function's.
func (l *layer) last(e api.Expr, names map[string]int) {
	switch {
	case e.Kind == api.ExpIf:
		test, from := l.value(e.Kids[0], names), l.at
		l.end(api.End{})
		then := l.at
		l.last(e.Kids[1], names)
		l.proc.Blocks = append(l.proc.Blocks, api.Block{})
		l.at = len(l.proc.Blocks) - 1
		l.proc.Blocks[from].End = ifs(test, then, l.at)
		l.last(e.Kids[2], names)
	case e.Kind == api.ExpCall:
		regs := l.values(e.Kids, names)
		l.proc.Blocks[l.at].End = tail(regs[0], regs[1:]...)
	case e.Kind == api.ExpPrim && e.Name == "%callcc":
		l.proc.Blocks[l.at].End = tailCC(l.value(e.Kids[0], names))
	case e.Kind == api.ExpLet, e.Kind == api.ExpFix, e.Kind == api.ExpSeq:
		body, names := l.ahead(e, names)
		l.last(body, names)
	default:
		l.proc.Blocks[l.at].End = gives(l.value(e, names))
	}
}

// wantProgram is that the code of a program runs as the program does.
func wantProgram(t *testing.T, source, input string) {
	t.Helper()
	l, _, wrong := read.Read(source)
	if wrong != api.OK {
		t.Fatal(wrong)
	}
	e, _, wrong := expand.Program(l, api.MaxFuel)
	if wrong != api.OK {
		t.Fatal(wrong)
	}
	want := model.Run(e, input, api.MaxSteps)
	for _, pass := range []func(api.Expr) (api.Expr, api.Errno){fix.Fix, box.Box} {
		if e, wrong = pass(e); wrong != api.OK {
			t.Fatal(wrong)
		}
	}
	lifted, wrong := lift.Lift(e)
	if wrong != api.OK {
		t.Fatal(wrong)
	}
	c := laid(lifted)
	got := Run(c, input, api.MaxSteps)
	if again := otherRun(c, input, api.MaxSteps); !isSame(got, again) {
		t.Errorf("%s: %s; the other way %s", source, told(got), told(again))
	}
	if want.Err == api.ErrRunSteps {
		t.Errorf("%s: %s", source, told(want))
	}
	want.Steps = got.Steps
	if !isSame(got, want) {
		t.Errorf("%s: %s; want %s", source, told(got), told(want))
	}
}

func TestPrograms(t *testing.T) {
	for _, source := range samples.Programs() {
		wantProgram(t, source, "")
		wantProgram(t, source, "hello")
		wantProgram(t, source, strings.Repeat("scrimshaw", 20))
	}
}
