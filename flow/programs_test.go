package flow

import (
	"scrimshaw/anf"
	"scrimshaw/api"
	"scrimshaw/box"
	"scrimshaw/expand"
	"scrimshaw/fix"
	"scrimshaw/fold"
	"scrimshaw/model"
	"scrimshaw/read"
	"scrimshaw/samples"
	"scrimshaw/vm"
	"testing"
)

// expanded is the expression of a program's source.
func expanded(t *testing.T, source string) api.Expr {
	t.Helper()
	l, _, wrong := read.Read(source)
	if wrong != api.OK {
		t.Fatal(source, wrong)
	}
	e, _, wrong := expand.Program(l, api.MaxFuel)
	if wrong != api.OK {
		t.Fatal(source, wrong)
	}
	return e
}

// passed is what the passes make of one: those alone that must be, or all.
func passed(t *testing.T, e api.Expr, all bool) api.Expr {
	t.Helper()
	passes := []func(api.Expr) (api.Expr, api.Errno){fix.Fix, box.Box}
	if all {
		passes = append(passes, fold.Fold, anf.Name)
	}
	for _, pass := range passes {
		out, wrong := pass(e)
		if wrong != api.OK {
			t.Fatal(textOf(e), wrong)
		}
		e = out
	}
	return e
}

// Whole programs: their code runs as chapter 9 tells of them.
func TestPrograms(t *testing.T) {
	for _, source := range samples.Programs() {
		e := expanded(t, source)
		for _, l := range []api.Lifted{lifted(passed(t, e, false)), lifted(passed(t, e, true))} {
			for _, input := range []string{"", "hello", "scrimshaw scrimshaw scrimshaw"} {
				c := wantFlow(t, l, input)
				want := model.Run(e, input, api.MaxSteps)
				if got := vm.Run(c, input, api.MaxSteps); want.Err == api.ErrRunSteps || told(got) != told(want) {
					t.Errorf("%s: %s, want %s", source, told(got), told(want))
				}
			}
		}
	}
}
