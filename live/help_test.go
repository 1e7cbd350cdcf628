package live

import (
	"fmt"
	"reflect"
	"scrimshaw/api"
	"slices"
	"testing"
)

// Functions are written by these.

func proc(l ...api.Block) api.Proc { return api.Proc{Regs: 20, Blocks: l} }

// blockOf is one with its end ahead.
func blockOf(e api.End, l ...api.Ins) api.Block { return api.Block{Ins: l, End: e} }

func do(op string, to int, l ...int) api.Ins { return api.Ins{Op: op, To: to, Args: l} }

func jump(next int) api.End { return api.End{Kind: api.EndJump, Next: next} }
func ifs(reg, next, other int) api.End {
	return api.End{Kind: api.EndIf, Reg: reg, Next: next, Else: other}
}
func gives(reg int) api.End          { return api.End{Kind: api.EndReturn, Reg: reg} }
func tail(reg int, l ...int) api.End { return api.End{Kind: api.EndTail, Reg: reg, Args: l} }
func calls(to, next, reg int, l ...int) api.End {
	return api.End{Kind: api.EndCall, Reg: reg, Args: l, To: to, Next: next}
}
func tailCC(reg int) api.End { return api.End{Kind: api.EndTailCC, Reg: reg} }
func callCC(to, next, reg int) api.End {
	return api.End{Kind: api.EndCallCC, Reg: reg, To: to, Next: next}
}

// lists are as an answer tells them.
func lists(l ...[]int) [][]int { return l }

// copied is a function in new memory.
func copied(p api.Proc) api.Proc {
	p.Blocks = slices.Clone(p.Blocks)
	for b := range p.Blocks {
		block := &p.Blocks[b]
		block.End.Args = slices.Clone(block.End.Args)
		block.Ins = slices.Clone(block.Ins)
		for i := range block.Ins {
			block.Ins[i].Args = slices.Clone(block.Ins[i].Args)
		}
	}
	return p
}

// textOf is a function for a test's eye.
func textOf(p api.Proc) string {
	out := ""
	for n, b := range p.Blocks {
		out += fmt.Sprintf("  block %d:", n)
		for _, i := range b.Ins {
			out += fmt.Sprintf(" %d=%s%v", i.To, i.Op, i.Args)
		}
		out += fmt.Sprintf(" end %+v\n", b.End)
	}
	return out
}

func isSame(a, b [][]int) bool { return slices.EqualFunc(a, b, slices.Equal) }

func wantIn(t *testing.T, p api.Proc, want ...[]int) {
	t.Helper()
	if got := In(p); !isSame(got, want) {
		t.Errorf("In: %v, want %v\n%.2000s", got, want, textOf(p))
	}
	wantAll(t, p)
}

func wantBehind(t *testing.T, p api.Proc, block int, want ...[]int) {
	t.Helper()
	if got := Behind(p, block); !isSame(got, want) {
		t.Errorf("Behind %d: %v, want %v\n%.2000s", block, got, want, textOf(p))
	}
	wantAll(t, p)
}

func wantAcross(t *testing.T, p api.Proc, block int, want ...int) {
	t.Helper()
	if got := Across(p, block); !slices.Equal(got, want) {
		t.Errorf("Across %d: %v, want %v\n%.2000s", block, got, want, textOf(p))
	}
	wantAll(t, p)
}

// wantAll is that all calls tell of a function what the other way tells, in memory of their own.
func wantAll(t *testing.T, p api.Proc) {
	t.Helper()
	was := copied(p)
	if got, want := In(p), otherIn(p); !isSame(got, want) {
		t.Errorf("In: %v, the other way %v\n%.2000s", got, want, textOf(p))
	}
	wantOwn(t, func() [][]int { return In(p) })
	for block := range p.Blocks {
		if got, want := Behind(p, block), otherBehind(p, block); !isSame(got, want) {
			t.Errorf("Behind %d: %v, the other way %v\n%.2000s", block, got, want, textOf(p))
		}
		if got, want := Across(p, block), otherAcross(p, block); !slices.Equal(got, want) {
			t.Errorf("Across %d: %v, the other way %v\n%.2000s", block, got, want, textOf(p))
		}
		wantOwn(t, func() [][]int { return Behind(p, block) })
		wantOwn(t, func() [][]int { return lists(Across(p, block)) })
	}
	if !reflect.DeepEqual(p, was) {
		t.Errorf("changed:\n%.2000s", textOf(was))
	}
}

// wantOwn is that no list of an answer shares memory with another one, or with what is told again: each is written over, up to its capacity.
func wantOwn(t *testing.T, tell func() [][]int) {
	t.Helper()
	first := tell()
	want := make([][]int, len(first))
	for at, l := range first {
		want[at] = slices.Clone(l)
	}
	for at := range first {
		if !slices.Equal(first[at], want[at]) {
			t.Fatalf("%v shares memory", want)
		}
		all := first[at][:cap(first[at])]
		for n := range all {
			all[n] = -77
		}
	}
	if again := tell(); !isSame(again, want) {
		t.Fatalf("told again: %v, want %v", again, want)
	}
}
