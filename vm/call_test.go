package vm

import (
	"scrimshaw/api"
	"testing"
)

// P15.2: calls, frames, continuations.

// ends are those that call what stands in the register 0, with so many values that stand from the register 1 on; they go on in the block 1.
func callsWith(n int) []api.End {
	args := []int{1, 2, 3, 4, 5, 6}[:n]
	l := []api.End{tail(0, args...), calls(0, 1, 0, args...)}
	if n == 1 {
		l = append(l, tailCC(0), callCC(0, 1, 0))
	}
	return l
}

func TestCallsOfWhatIsNoProcedure(t *testing.T) {
	for n := range api.MaxParams + 1 {
		for _, e := range callsWith(n) {
			for _, i := range []api.Ins{constant(0, "0"), constant(0, "1"), constant(0, "#f"), constant(0, "()"), constant(0, "car"), constant(0, "#\\a"), do("void", 0), do("read-u8", 0), do("%unset", 0), do("cons", 0, 1, 1), do("%box", 0, 1), do("%winders", 0)} {
				wantWrong(t, main(block(e, i), block(gives(0))), api.ErrRunProc, 2)
			}
			wantWrong(t, main(block(e), block(gives(0))), api.ErrRunProc, 1)
			// A value of the number of a closure's thing is none.
			wantWrong(t, main(block(e, closure(1, telling7), closure(2, telling7), number(0, 1)), block(gives(0))), api.ErrRunProc, 4)
		}
	}
}

func TestCallsWithAnotherNumber(t *testing.T) {
	for n := range api.MaxParams + 1 {
		for _, e := range callsWith(n) {
			for params := range api.MaxParams + 1 {
				c := code(proc(0, 0, 7, block(e, closure(0, 1)), block(gives(0))), proc(params, 0, 7, block(gives(6), number(6, 5))))
				switch {
				case params != n:
					wantWrong(t, c, api.ErrRunCount, 2)
				case e.Kind == api.EndTail || e.Kind == api.EndTailCC:
					wantValue(t, c, "5", 4)
				default:
					wantValue(t, c, "5", 5)
				}
			}
			// Of a continuation, which is told one value.
			back := code(proc(0, 0, 1, block(tailCC(0), closure(0, 1))), proc(1, 0, 7, block(e, number(1, 5)), block(gives(0))))
			if n == 1 {
				wantValue(t, back, map[int]string{api.EndTail: "5", api.EndCall: "5", api.EndTailCC: "procedure", api.EndCallCC: "procedure"}[e.Kind], 4)
			} else {
				wantWrong(t, back, api.ErrRunCount, 4)
			}
		}
	}
}

func TestFrames(t *testing.T) {
	// Registers are as they were, but the one that is told; each has what it was filled with behind it.
	wantValue(t, main(
		block(calls(1, 1, 2, 0), number(0, 5), number(1, 6), closure(2, tellingIt), number(3, 8)),
		block(gives(0), number(0, 9), do("cons", 0, 0, 1), do("cons", 0, 0, 3), do("cons", 0, 0, 4)),
	), "(((9 . 5) . 8) . unset)", 11)
	// Also that of what is called, and one of an argument.
	wantValue(t, main(block(calls(2, 1, 2, 0), number(0, 5), closure(2, tellingIt)), block(gives(0), do("cons", 0, 0, 2))), "(5 . 5)", 6)
	wantValue(t, main(block(calls(0, 1, 2, 0, 1), number(0, 5), number(1, 6), closure(2, tellingPair)), block(gives(0), do("cons", 0, 0, 1))), "((5 . 6) . 6)", 8)
	wantValue(t, code(
		proc(0, 0, 3, block(tail(2, 0, 1), number(0, 5), number(1, 6), closure(2, 1))),
		proc(2, 0, 3, block(calls(0, 1, 2), closure(2, 2)), block(gives(1), do("cons", 1, 0, 1))),
		proc(0, 0, 1, block(gives(0), number(0, 7))),
	), "(7 . 6)", 10)
	// What is called fills its own, not those of the frame; and the block that goes on may be any.
	wantValue(t, code(
		proc(0, 0, 3, block(calls(0, 2, 1), number(2, 5), closure(1, 1)), block(gives(2)), block(jump(1), do("cons", 2, 0, 2))),
		proc(0, 0, 3, block(gives(0), number(0, 1), number(1, 2), number(2, 3))),
	), "(1 . 5)", 10)
	// The closure whose function runs is that of the frame again.
	wantValue(t, code(
		proc(0, 0, 2, block(tail(1), number(0, 5), closure(1, 1, 0))),
		proc(0, 1, 3, block(calls(1, 1, 0), number(1, 6), closure(0, 2, 1)), block(gives(0), held(0, 0), do("cons", 0, 0, 1))),
		proc(0, 1, 1, block(gives(0), held(0, 0))),
	), "(5 . 6)", 11)
}

// fact is a function that goes as deep as its number.
func fact() api.Code {
	return code(
		proc(0, 0, 2, block(tail(0, 1), closure(0, 1, 0), tie(0, 0, 0), number(1, 12))),
		proc(1, 1, 5,
			block(ifs(2, 1, 2), number(1, 2), do("<", 2, 0, 1)),
			block(gives(1), number(1, 1)),
			block(calls(3, 3, 4, 3), number(1, 1), do("-", 3, 0, 1), held(4, 0)),
			block(gives(3), do("*", 3, 3, 0))),
	)
}

func TestDeepCalls(t *testing.T) {
	wantValue(t, fact(), "479001600", 4+11*9+5)
	over := fact()
	over.Procs[0].Blocks[0].Ins[2] = number(1, 30)
	// 20! is the greatest that is a number; there are 29 calls, and 18 of them are come back from by then.
	wantWrong(t, over, api.ErrRunOver, 4+29*7+5+2*18+1)
}

func TestContinuations(t *testing.T) {
	// What is called with one may tell a value, or call it.
	for _, e := range []api.End{gives(1), tail(0, 1), calls(1, 0, 0, 1)} {
		wantValue(t, code(proc(0, 0, 1, block(tailCC(0), closure(0, 1))), proc(1, 0, 2, block(e, number(1, 5)))), "5", 4)
		wantValue(t, code(proc(0, 0, 2, block(callCC(1, 1, 0), closure(0, 1)), block(gives(0), do("cons", 0, 1, 1))), proc(1, 0, 2, block(e, number(1, 5)))), "(5 . 5)", 6)
	}
	// Frames that there are when it is called are gone.
	wantValue(t, code(
		proc(0, 0, 2, block(callCC(1, 1, 0), closure(0, 1)), block(gives(0), do("cons", 0, 1, 1))),
		proc(1, 0, 2, block(calls(1, 1, 1, 0), closure(1, 2)), block(gives(1), do("error", 1))),
		proc(1, 0, 2, block(calls(1, 1, 0, 1), number(1, 5)), block(gives(1), do("error", 1))),
	), "(5 . 5)", 8)
	// In the place of a value that is told there is no frame: what calls with the continuation is not come back to.
	wantValue(t, code(
		proc(0, 0, 2, block(calls(1, 1, 0), closure(0, 1)), block(gives(1))),
		proc(0, 0, 2, block(tailCC(0), closure(0, 2))),
		proc(1, 0, 2, block(tail(0, 1), number(1, 5))),
	), "5", 7)
	// They are things without parts, each of its own; procedures are told as such.
	for _, e := range []api.End{tailCC(0), callCC(0, 1, 0)} {
		c := code(proc(0, 0, 1, block(e, closure(0, 1)), block(gives(0))), proc(1, 0, 3, block(gives(0), do("procedure?", 1, 0), do("eq?", 2, 0, 0), do("cons", 1, 1, 2), do("cons", 0, 0, 1))))
		wantValue(t, c, "(procedure #t . #t)", 7+[]int{api.EndTailCC: 0, api.EndCallCC: 1}[e.Kind])
	}
	wantValue(t, main(block(callCC(1, 1, 0), closure(0, tellingIt)), block(callCC(2, 2, 0)), block(gives(3), do("eq?", 3, 1, 2))), "#f", 7)
	// What is called may be a continuation: it is told the new one. Here that is called in the same place then, so that a third one goes on behind it.
	wantValue(t, main(block(callCC(1, 1, 0), closure(0, tellingIt)), block(callCC(2, 2, 1)), block(gives(2))), "procedure", 6)
}

// keeps is a code that keeps a continuation in a box, and goes back to it n times with the next number; what is in the block 1 is done each time that a value is told.
func keeps(n int, behind ...api.Ins) api.Code {
	// Registers: 0 what was told, 1 the function, 2 a box for the continuation, 3 one for how often, 4 what for, 5 the list of a box.
	return code(
		proc(0, 0, 12,
			block(callCC(0, 1, 1), number(4, 0), do("%box", 2, 4), do("%box", 3, 4), constant(4, "()"), do("%box", 5, 4), closure(1, 1, 2), number(10, 100), number(11, 100)),
			block(ifs(8, 2, 3), append(behind,
				do("%unbox", 6, 5), do("cons", 6, 10, 6), do("cons", 6, 0, 6), do("%set-box!", 7, 5, 6),
				do("%unbox", 6, 3), number(7, 1), do("+", 6, 6, 7), do("%set-box!", 7, 3, 6), number(7, n), do("<", 8, 6, 7))...),
			block(tail(7, 6), do("%unbox", 7, 2)),
			block(gives(6), do("%unbox", 6, 5)),
		),
		proc(1, 1, 3, block(gives(2), held(1, 0), do("%set-box!", 2, 1, 0), number(2, 0))),
	)
}

// Any number of times, also when what it was made in has ended; the registers are as they were then, each time.
func TestContinuationsAgain(t *testing.T) {
	wantValue(t, keeps(4, number(9, 1), do("+", 10, 10, 9)), "(3 101 2 101 1 101 0 101)", 9+4+4*13+3*2+2)
	wantValue(t, keeps(3, do("cons", 10, 10, 11), number(11, 1), do("cons", 10, 10, 9), move(9, 10)), "(2 ((100 . 100) . unset) 1 ((100 . 100) . unset) 0 ((100 . 100) . unset))", 9+4+3*15+2*2+2)
	// Of a box there is one.
	wantValue(t, keeps(3, do("%unbox", 10, 3)), "(2 2 1 1 0 0)", 9+4+3*12+2*2+2)
	if got := Run(keeps(50000), "", api.MaxSteps); got.Err != api.OK || got.Whole || got.Steps != 9+4+50000*11+49999*2+2 {
		t.Error(told(got))
	}
}

// It goes on from frames that were come back from long ago, all of them, each time.
func TestContinuationsOfManyFrames(t *testing.T) {
	// down calls itself n times, then keeps the continuation; each frame adds 1 to what is told, and writes it.
	c := code(
		proc(0, 0, 6,
			block(calls(4, 1, 0, 1, 2), number(3, 0), do("%box", 2, 3), do("%box", 5, 3), closure(0, 1, 0), tie(0, 0, 0), number(1, 3)),
			block(ifs(1, 2, 3), do("%unbox", 0, 5), number(1, 1), do("+", 0, 0, 1), do("%set-box!", 1, 5, 0), number(1, 3), do("<", 1, 0, 1)),
			block(tail(1, 0), do("%unbox", 1, 2)),
			block(gives(4)),
		),
		proc(2, 1, 6,
			block(ifs(2, 1, 2), number(2, 0), do("=", 2, 0, 2)),
			block(callCC(0, 4, 2), closure(2, 2, 1)),
			block(calls(4, 3, 2, 3, 1), number(2, 1), do("-", 3, 0, 2), held(2, 0)),
			block(gives(4), do("+", 4, 4, 0), number(5, 65), do("+", 5, 5, 4), do("write-u8", 5, 5)),
			block(gives(0)),
		),
		proc(1, 1, 3, block(gives(2), held(1, 0), do("%set-box!", 2, 1, 0), number(2, 0))),
	)
	// 0 is told first, then 1, then 2: of each the frames of 1, 2 and 3 make 1, 3, 6 more.
	steps := 7 + 3*(3+4) + 3 + 2 + 4 + 3*(1+3*5+7) + 2*2 + 1
	wantRun(t, c, "", outcome(api.OK, "8", "BDGCEHDFI", steps))
}
