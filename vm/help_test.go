package vm

import (
	"fmt"
	"reflect"
	"scrimshaw/api"
	"scrimshaw/data"
	"scrimshaw/read"
	"slices"
	"strings"
	"testing"
)

// Codes are written by these.

func code(l ...api.Proc) api.Code { return api.Code{Procs: l} }

func proc(params, holds, regs int, l ...api.Block) api.Proc {
	return api.Proc{Params: params, Holds: holds, Regs: regs, Blocks: l}
}

// block is one with its end ahead.
func block(e api.End, l ...api.Ins) api.Block { return api.Block{Ins: l, End: e} }

// one is a code of one function that has one block.
func one(regs int, e api.End, l ...api.Ins) api.Code { return code(proc(0, 0, regs, block(e, l...))) }

func constant(to int, s string) api.Ins      { return api.Ins{Op: "const", To: to, Const: datum(s)} }
func number(to, n int) api.Ins               { return api.Ins{Op: "const", To: to, Const: num(n)} }
func move(to, from int) api.Ins              { return api.Ins{Op: "move", To: to, Args: []int{from}} }
func held(to, at int) api.Ins                { return api.Ins{Op: "held", To: to, Num: at} }
func closure(to, of int, l ...int) api.Ins   { return api.Ins{Op: "closure", To: to, Num: of, Args: l} }
func tie(at, of, v int) api.Ins              { return api.Ins{Op: "tie", Num: at, Args: []int{of, v}} }
func do(op string, to int, l ...int) api.Ins { return api.Ins{Op: op, To: to, Args: l} }

func jump(next int) api.End { return api.End{Kind: api.EndJump, Next: next} }
func ifs(reg, next, other int) api.End {
	return api.End{Kind: api.EndIf, Reg: reg, Next: next, Else: other}
}
func gives(reg int) api.End          { return api.End{Kind: api.EndReturn, Reg: reg} }
func tail(reg int, l ...int) api.End { return api.End{Kind: api.EndTail, Reg: reg, Args: l} }
func calls(to, next, reg int, l ...int) api.End {
	return api.End{Kind: api.EndCall, Reg: reg, Args: l, To: to, Next: next}
}
func tailCC(reg int) api.End { return api.End{Kind: api.EndTailCC, Reg: reg} }
func callCC(to, next, reg int) api.End {
	return api.End{Kind: api.EndCallCC, Reg: reg, To: to, Next: next}
}

func num(n int) api.Datum { return api.Datum{Kind: api.DatInt, Int: n} }

// datum is the one that a text says.
func datum(s string) api.Datum {
	l, _, wrong := read.Read(s)
	if wrong != api.OK || len(l) != 1 {
		panic("no datum: " + s)
	}
	return l[0]
}

// copied is a code in new memory.
func copied(c api.Code) api.Code {
	out := api.Code{Procs: slices.Clone(c.Procs)}
	for p, proc := range out.Procs {
		out.Procs[p].Blocks = slices.Clone(proc.Blocks)
		for b, block := range out.Procs[p].Blocks {
			block.End.Args = slices.Clone(block.End.Args)
			block.Ins = slices.Clone(block.Ins)
			for i := range block.Ins {
				block.Ins[i].Args = slices.Clone(block.Ins[i].Args)
			}
			out.Procs[p].Blocks[b] = block
		}
	}
	return out
}

// textOf is a code for a test's eye.
func textOf(c api.Code) string {
	var out strings.Builder
	for i, p := range c.Procs {
		fmt.Fprintf(&out, "function %d: %d params, %d holds, %d registers\n", i, p.Params, p.Holds, p.Regs)
		for i, b := range p.Blocks {
			fmt.Fprintf(&out, "  block %d:", i)
			for _, i := range b.Ins {
				fmt.Fprintf(&out, " %d=%s%v", i.To, i.Op, i.Args)
				if i.Op == "const" {
					s, _ := data.Text(i.Const)
					out.WriteString(s)
				} else if i.Num != 0 || i.Op == "held" || i.Op == "tie" {
					fmt.Fprintf(&out, "#%d", i.Num)
				}
			}
			e := b.End
			fmt.Fprintf(&out, " %s %d%v to %d, next %d, %d\n", []string{"jump", "if", "return", "tail", "call", "tailCC", "callCC"}[e.Kind], e.Reg, e.Args, e.To, e.Next, e.Else)
		}
	}
	return out.String()
}

// told is all of an outcome, for a test's eye.
func told(o api.Outcome) string { return fmt.Sprintf("%+v", o) }

// outcome is one whose value shows what a text says, or, with an empty text, one that ends with an error.
func outcome(wrong api.Errno, shown, output string, steps int) api.Outcome {
	o := api.Outcome{Err: wrong, Output: output, Steps: steps}
	if shown != "" {
		o.Shown, o.Whole = datum(shown), true
	}
	return o
}

func isSame(a, b api.Outcome) bool {
	return a.Err == b.Err && a.Output == b.Output && data.Equal(a.Shown, b.Shown) && a.Whole == b.Whole && a.Steps == b.Steps
}

// wantOutcome is of a code that may be; the other way tells the same.
func wantOutcome(t *testing.T, c api.Code, input string, steps int, want api.Outcome) {
	t.Helper()
	was := copied(c)
	if wrong := Check(c); wrong != api.OK {
		t.Errorf("Check: %v\n%.2000s", wrong, textOf(c))
		return
	}
	if got := Run(c, input, steps); !isSame(got, want) {
		t.Errorf("with %d steps: %s; want %s\n%.2000s", steps, told(got), told(want), textOf(c))
	}
	if got := otherRun(c, input, steps); !isSame(got, want) {
		t.Errorf("the other way, with %d steps: %s; want %s\n%.2000s", steps, told(got), told(want), textOf(c))
	}
	if !reflect.DeepEqual(was, c) {
		t.Errorf("changed:\n%.2000s", textOf(was))
	}
}

// wantRun is how a code runs to its end; and with fewer steps, and with more.
func wantRun(t *testing.T, c api.Code, input string, want api.Outcome) {
	t.Helper()
	for _, steps := range []int{want.Steps, want.Steps + 1, api.MaxSteps} {
		wantOutcome(t, c, input, steps, want)
	}
	wantShort(t, c, input, want)
}

// wantShort is of a run with each lower number of steps: it ends with that, and has written a beginning of the output, the longer the more steps there are.
func wantShort(t *testing.T, c api.Code, input string, want api.Outcome) {
	t.Helper()
	least := 0
	for steps := range min(want.Steps, 300) {
		got := Run(c, input, steps)
		if !isSame(got, outcome(api.ErrRunSteps, "", got.Output, steps)) || !strings.HasPrefix(want.Output, got.Output) || len(got.Output) < least {
			t.Errorf("with %d steps: %s; the whole run: %s\n%.2000s", steps, told(got), told(want), textOf(c))
			return
		}
		least = len(got.Output)
	}
}

func wantValue(t *testing.T, c api.Code, shown string, steps int) {
	t.Helper()
	wantRun(t, c, "", outcome(api.OK, shown, "", steps))
}

func wantWrong(t *testing.T, c api.Code, wrong api.Errno, steps int) {
	t.Helper()
	wantRun(t, c, "", outcome(wrong, "", "", steps))
}

// wantRefused is of a code that may not be; the other way tells the same.
func wantRefused(t *testing.T, c api.Code, want api.Errno, what ...any) {
	t.Helper()
	if got := Check(c); got != want {
		t.Errorf("%v: Check: %v, want %v", what, got, want)
	}
	if got := otherCheck(c); got != want {
		t.Errorf("%v: the other way: %v, want %v", what, got, want)
	}
	if got := Run(c, "abc", 100); !isSame(got, api.Outcome{Err: want}) {
		t.Errorf("%v: Run: %s, want %v", what, told(got), want)
	}
}

// wantForm is of a code that may not be for its form.
func wantForm(t *testing.T, c api.Code, what ...any) {
	t.Helper()
	wantRefused(t, c, api.ErrCodeForm, what...)
}

// wantMay is of a code that may be.
func wantMay(t *testing.T, c api.Code, what ...any) {
	t.Helper()
	if got, other := Check(c), otherCheck(c); got != api.OK || other != api.OK {
		t.Errorf("%v: Check: %v; the other way: %v", what, got, other)
	}
}
