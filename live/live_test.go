package live

import (
	"math"
	"scrimshaw/api"
	"slices"
	"testing"
)

func TestExamples(t *testing.T) {
	l := []api.Ins{do("const", 1), do("+", 2, 0, 1)}
	one := proc(blockOf(gives(2), l...))
	wantIn(t, one, []int{0})
	wantBehind(t, one, 0, []int{0, 1}, []int{2})
	two := proc(blockOf(calls(3, 1, 2), l...), blockOf(gives(0)))
	wantIn(t, two, []int{0}, []int{0})
	wantBehind(t, two, 0, []int{0, 1}, []int{0, 2})
	wantAcross(t, two, 0, 0)
	wantAcross(t, two, 1)
}

// ops are some of each kind of instructions, and some that there are none of.
func ops() []string {
	return []string{"const", "move", "held", "closure", "+", "cons", "read-u8", "write-u8", "set-car!", "vector-set!", "%set-box!", "error", "void", "%wind!", "%callcc", "x", "", "Tie", "tie ", "ti"}
}

func TestWhatAnInstructionReadsAndFills(t *testing.T) {
	for _, op := range ops() {
		for args := range 8 {
			reads := []int{7, 3, 9, 3, 12, 0, 30}[:args]
			p := proc(blockOf(tail(5, 6), do(op, 5, reads...)))
			sorted := slices.Clone(reads)
			slices.Sort(sorted)
			want := append(slices.Compact(sorted), 6)
			slices.Sort(want)
			wantIn(t, p, want)
			wantBehind(t, p, 0, []int{5, 6})
		}
		// It reads ahead of filling.
		wantIn(t, proc(blockOf(gives(5), do(op, 5, 5))), []int{5})
		wantIn(t, proc(blockOf(gives(5), do(op, 5, 2, 5, 1))), []int{1, 2, 5})
		// It fills 0, too.
		wantIn(t, proc(blockOf(gives(0), do(op, 0))), nil)
	}
	p := proc(blockOf(gives(0), do("tie", 0, 1, 2)))
	wantIn(t, p, []int{0, 1, 2})
	wantBehind(t, p, 0, []int{0})
	p = proc(blockOf(tail(5, 6), do("tie", 5, 1), do("const", 1)))
	wantIn(t, p, []int{1, 5, 6})
	wantBehind(t, p, 0, []int{5, 6}, []int{5, 6})
	wantIn(t, proc(blockOf(gives(7), do("tie", 7, 7, 4, 7))), []int{4, 7})
	// What else stands there is of no moment.
	more := proc(blockOf(gives(1), api.Ins{Op: "held", To: 2, Num: 1, Const: api.Datum{Kind: api.DatInt, Int: 9}}))
	wantIn(t, more, []int{1})
}

// ended is a function that begins with an end of which all is told, whose Next reads 11 and fills 12, 4 and 21, and whose Else reads 12 and 4.
func ended(kind int) api.Proc {
	e := api.End{Kind: kind, Reg: 1, Args: []int{3, 2, 3}, To: 4, Next: 1, Else: 2}
	return proc(blockOf(e), blockOf(gives(11), do("const", 12), do("const", 4), do("const", 21)), blockOf(tail(12, 4)))
}

func TestWhatAnEndReadsFillsAndLeadsTo(t *testing.T) {
	next, other := []int{11}, []int{4, 12}
	for kind, want := range map[int][]int{
		api.EndJump:   {11},
		api.EndIf:     {1, 4, 11, 12},
		api.EndReturn: {1},
		api.EndTail:   {1, 2, 3},
		api.EndCall:   {1, 2, 3, 11},
		api.EndTailCC: {1},
		api.EndCallCC: {1, 11},
		// There are none of these kinds.
		api.EndKinds: nil, -1: nil, 100: nil, math.MinInt: nil, math.MaxInt: nil,
	} {
		wantIn(t, ended(kind), want, next, other)
		// Behind an instruction that does nothing to these it is the same.
		p := ended(kind)
		p.Blocks[0].Ins = []api.Ins{do("const", 19)}
		wantBehind(t, p, 0, want)
	}
}

func TestToIsFilledByCallsAlone(t *testing.T) {
	for kind, want := range map[int][]int{
		api.EndJump: {4}, api.EndIf: {1, 4}, api.EndCall: {1, 2}, api.EndCallCC: {1}, api.EndReturn: {1}, api.EndTail: {1, 2}, api.EndTailCC: {1},
	} {
		e := api.End{Kind: kind, Reg: 1, Args: []int{2}, To: 4, Next: 1, Else: 1}
		wantIn(t, proc(blockOf(e), blockOf(gives(4))), want, []int{4})
	}
	// What an end reads is read ahead of its To being filled.
	wantIn(t, proc(blockOf(calls(4, 1, 4)), blockOf(gives(4))), []int{4}, []int{4})
	wantIn(t, proc(blockOf(calls(4, 1, 5, 6, 4)), blockOf(gives(4))), []int{4, 5, 6}, []int{4})
	wantIn(t, proc(blockOf(callCC(4, 1, 4)), blockOf(gives(4))), []int{4}, []int{4})
	// To is not wanted ahead of the call, but behind it.
	p := proc(blockOf(calls(4, 1, 1), do("const", 1)), blockOf(gives(4)))
	wantBehind(t, p, 0, []int{1})
	wantIn(t, p, nil, []int{4})
}

func TestEndsThatLeadNowhere(t *testing.T) {
	for _, n := range []int{-1, 2, 3, 100, math.MinInt, math.MaxInt} {
		last := blockOf(gives(9))
		wantIn(t, proc(blockOf(jump(n)), last), nil, []int{9})
		wantIn(t, proc(blockOf(ifs(1, n, n)), last), []int{1}, []int{9})
		wantIn(t, proc(blockOf(ifs(1, 1, n)), last), []int{1, 9}, []int{9})
		wantIn(t, proc(blockOf(ifs(1, n, 1)), last), []int{1, 9}, []int{9})
		wantIn(t, proc(blockOf(calls(9, n, 1, 2)), last), []int{1, 2}, []int{9})
		wantIn(t, proc(blockOf(callCC(0, n, 1)), last), []int{1}, []int{9})
		wantAcross(t, proc(blockOf(calls(0, n, 1)), last), 0)
		wantAcross(t, proc(blockOf(callCC(0, n, 1)), last), 0)
	}
}

func TestWays(t *testing.T) {
	// Round and round, to both sides.
	wantIn(t, proc(blockOf(jump(0))), nil)
	wantIn(t, proc(blockOf(jump(0), do("move", 1, 2), do("move", 2, 1))), []int{2})
	wantIn(t, proc(blockOf(jump(1), do("const", 2)), blockOf(ifs(1, 2, 3)), blockOf(jump(1), do("+", 2, 2, 3)), blockOf(gives(2))), []int{1, 3}, []int{1, 2, 3}, []int{1, 2, 3}, []int{2})
	// One branch alone reads it.
	wantIn(t, proc(blockOf(ifs(0, 1, 2)), blockOf(gives(1), do("const", 1)), blockOf(gives(1))), []int{0, 1}, nil, []int{1})
	wantIn(t, proc(blockOf(ifs(0, 1, 2)), blockOf(gives(1), do("const", 1)), blockOf(gives(1), do("move", 1, 2))), []int{0, 2}, nil, []int{2})
	// A way may lead back to the beginning, and no way may lead to a block.
	wantIn(t, proc(blockOf(gives(1)), blockOf(jump(0)), blockOf(ifs(3, 1, 2))), []int{1}, []int{1}, []int{1, 3})
	// Filled on one of two ways.
	p := proc(blockOf(ifs(0, 1, 2)), blockOf(jump(3), do("const", 5)), blockOf(jump(3), do("const", 6)), blockOf(tail(5, 6)))
	wantIn(t, p, []int{0, 5, 6}, []int{6}, []int{5}, []int{5, 6})
	wantBehind(t, p, 1, []int{5, 6})
	wantBehind(t, p, 2, []int{5, 6})
	// Filled more than once, and for nothing.
	p = proc(blockOf(gives(1), do("const", 1), do("const", 1), do("move", 2, 1), do("const", 3), do("move", 1, 2)))
	wantBehind(t, p, 0, nil, []int{1}, []int{2}, []int{2}, []int{1})
}

func TestAcross(t *testing.T) {
	behind := blockOf(tail(4, 9, 2, 9, 0))
	for _, to := range []int{0, 2, 4, 9} {
		var want []int
		for _, reg := range []int{0, 2, 4, 9} {
			if reg != to {
				want = append(want, reg)
			}
		}
		wantAcross(t, proc(blockOf(calls(to, 1, 7, 8)), behind), 0, want...)
		wantAcross(t, proc(blockOf(callCC(to, 1, 7)), behind), 0, want...)
	}
	// A To that nobody wants.
	wantAcross(t, proc(blockOf(calls(1, 1, 7)), behind), 0, 0, 2, 4, 9)
	// What a call reads itself is not wanted behind it for that.
	wantAcross(t, proc(blockOf(calls(1, 1, 7, 8, 4)), blockOf(gives(1))), 0)
	wantAcross(t, proc(blockOf(calls(1, 0, 7, 8))), 0, 7, 8)
	wantAcross(t, proc(blockOf(callCC(7, 0, 7), do("move", 7, 8))), 0, 8)
	for _, e := range []api.End{jump(1), ifs(0, 1, 1), gives(0), tail(0), tailCC(0), {Kind: api.EndKinds, Next: 1}, {Kind: -1, Next: 1}} {
		e.Next, e.To = 1, 3
		wantAcross(t, proc(blockOf(e), behind), 0)
	}
}

func TestRegistersMayBeAnyNumbers(t *testing.T) {
	far := []int{math.MaxInt, 5000, -1, math.MinInt, 0, -1}
	p := proc(blockOf(tail(2000, far...), do("x", -7, math.MaxInt, 3), do("const", 5000)))
	wantIn(t, p, []int{math.MinInt, -1, 0, 3, 2000, math.MaxInt})
	wantBehind(t, p, 0, []int{math.MinInt, -1, 0, 2000, math.MaxInt}, []int{math.MinInt, -1, 0, 2000, 5000, math.MaxInt})
	p = proc(blockOf(calls(-1, 1, -3)), blockOf(tail(-2, -1)))
	wantIn(t, p, []int{-3, -2}, []int{-2, -1})
	wantAcross(t, p, 0, -2)
}

func TestNoSuchBlock(t *testing.T) {
	call := proc(blockOf(calls(0, 1, 1), do("const", 1)), blockOf(gives(2), do("const", 0)))
	for _, n := range []int{-1, 2, 3, 1000, math.MinInt, math.MaxInt} {
		if l := Behind(call, n); l != nil {
			t.Error(n, l)
		}
		if l := Across(call, n); l != nil {
			t.Error(n, l)
		}
	}
	for _, none := range []api.Proc{{}, {Blocks: []api.Block{}}, {Params: -1, Holds: 5000, Regs: -3}} {
		if l := In(none); len(l) != 0 {
			t.Error(l)
		}
		if Behind(none, 0) != nil || Across(none, 0) != nil {
			t.Error("there is no block")
		}
	}
	empty := api.Proc{Blocks: make([]api.Block, 3)}
	wantIn(t, empty, nil, nil, nil)
	wantBehind(t, empty, 1)
}
