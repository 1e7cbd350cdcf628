package vm

import (
	"scrimshaw/api"
	"slices"
	"strings"
	"testing"
)

// P15.2: what instructions and ends do.

// tells are functions that are called and held: of no parameters it tells 7, of one that, of two their pair, of none with a value held that.
func tells() []api.Proc {
	return []api.Proc{
		proc(0, 0, 1, block(gives(0), number(0, 7))),
		proc(1, 0, 1, block(gives(0))),
		proc(2, 0, 2, block(gives(0), do("cons", 0, 0, 1))),
		proc(0, 1, 1, block(gives(0), held(0, 0))),
	}
}

const (
	telling7 = 1 + iota
	tellingIt
	tellingPair
	tellingHeld
)

// main is a code whose first function has these blocks and nine registers, ahead of those that tell.
func main(l ...api.Block) api.Code {
	return code(append([]api.Proc{proc(0, 0, 9, l...)}, tells()...)...)
}

func TestExamples(t *testing.T) {
	wantValue(t, one(1, gives(0), number(0, 5)), "5", 2)
	wantValue(t, one(1, gives(0)), "unset", 1)
	wantWrong(t, one(1, tail(0)), api.ErrRunProc, 1)
}

func TestConstants(t *testing.T) {
	for _, s := range []string{"#f", "#t", "0", "-5", "1152921504606846975", "-1152921504606846976", "#\\a", "#\\x00", "#\\xff", "a", "unset", "()"} {
		wantValue(t, one(3, gives(2), constant(2, s)), s, 2)
	}
	// It is a value, not only what shows like it.
	wantValue(t, main(block(gives(2), constant(0, "unset"), do("symbol?", 0, 0), do("symbol?", 1, 1), do("cons", 2, 0, 1))), "(#t . #f)", 5)
	wantValue(t, main(block(gives(2), constant(0, "()"), do("null?", 2, 0))), "#t", 3)
}

func TestRegisters(t *testing.T) {
	// Each is ValUnset till it is filled; it has what it was filled with last.
	wantValue(t, main(block(gives(4), number(0, 1), number(3, 2), number(0, 3), do("cons", 4, 3, 1), do("cons", 4, 0, 4))), "(3 2 . unset)", 6)
	wantValue(t, main(block(gives(0), number(0, 1), move(1, 0), number(0, 2), do("cons", 0, 0, 1))), "(2 . 1)", 5)
	wantValue(t, main(block(gives(1), number(1, 5), move(1, 1))), "5", 3)
	wantValue(t, main(block(gives(1), move(1, 0))), "unset", 2)
	// The register that is filled may be one of those that are read.
	wantValue(t, main(block(gives(0), number(0, 5), do("+", 0, 0, 0), do("*", 0, 0, 0))), "100", 4)
	// All of as many as there may be.
	var l []api.Ins
	for at := range api.MaxRegs {
		l = append(l, number(at, at))
	}
	for at := range api.MaxRegs - 1 {
		l = append(l, do("-", at, at+1, at))
	}
	l = append(l, do("+", 1, 0, 0))
	for at := 2; at < 40; at++ {
		l = append(l, do("+", 1, 1, at*50))
	}
	wantOutcome(t, one(api.MaxRegs, gives(1), l...), "", api.MaxSteps, outcome(api.OK, "40", "", 4039))
	for _, at := range []int{0, 1, 2, 5, 6, 7, 100, 1000, 1998, 1999} {
		want := "unset"
		if at == 1000 {
			want = "7"
		}
		wantValue(t, one(api.MaxRegs, gives(at), number(1000, 7)), want, 2)
	}
}

func TestArgumentsAreRegisters(t *testing.T) {
	for params := range api.MaxParams + 1 {
		regs := params + 2
		first := proc(0, 0, 8, block(api.End{Kind: api.EndTail, Reg: 7}, closure(7, 1)))
		second := proc(params, 0, regs, block(gives(regs-1), do("make-vector", regs-1, 0, 1)))
		want := "#("
		second.Blocks[0].Ins = []api.Ins{number(params, regs), do("make-vector", regs-1, params, regs-1)}
		for at := range params {
			first.Blocks[0].Ins = append(first.Blocks[0].Ins, number(at, 10*at))
			first.Blocks[0].End.Args = append(first.Blocks[0].End.Args, at)
			second.Blocks[0].Ins = append(second.Blocks[0].Ins, number(params, at), do("vector-set!", params, regs-1, params, at))
			want += []string{"0", "10", "20", "30", "40", "50"}[at] + " "
		}
		wantValue(t, code(first, second), want+"unset unset)", 1+params+1+2+2*params+1)
		// One value fewer, and one more.
		for _, n := range []int{params - 1, params + 1} {
			if n >= 0 && n <= api.MaxParams {
				bent := copied(code(first, second))
				bent.Procs[0].Blocks[0].End.Args = make([]int, n)
				wantWrong(t, bent, api.ErrRunCount, 2+params)
			}
		}
	}
	// In the order in which they are told, one more than once; they may be filled anew.
	wantValue(t, main(block(tail(3, 1, 0), number(0, 1), number(1, 2), closure(3, tellingPair))), "(2 . 1)", 6)
	wantValue(t, main(block(tail(3, 1, 1), number(0, 1), number(1, 2), closure(3, tellingPair))), "(2 . 2)", 6)
	wantValue(t, main(block(tail(3, 3), closure(3, tellingIt))), "procedure", 3)
	wantValue(t, code(proc(0, 0, 2, block(tail(1, 0, 0), number(0, 1), closure(1, 1))), proc(2, 0, 3, block(gives(2), number(0, 5), do("cons", 2, 0, 1)))), "(5 . 1)", 6)
}

// The value of each primitive is as of chapter 9; of those that are the heap's these are a few.
func TestPrimitives(t *testing.T) {
	wantValue(t, main(block(gives(2), number(0, 7), number(1, -2), do("quotient", 2, 0, 1))), "-3", 4)
	wantValue(t, main(block(gives(2), number(0, 3), number(1, 1), do("make-vector", 2, 0, 1), do("vector-set!", 3, 2, 1, 0), do("cons", 2, 2, 3))), "(#(1 3 1) . void)", 6)
	wantValue(t, main(block(gives(2), do("void", 0), do("%unset", 1), do("cons", 2, 0, 1))), "(void . unset)", 4)
	wantValue(t, main(block(gives(2), number(0, 1), do("%box", 1, 0), number(0, 2), do("%unbox", 2, 1))), "1", 5)
	wantValue(t, main(block(gives(2), closure(0, telling7), do("procedure?", 2, 0))), "#t", 3)
	wantValue(t, main(block(gives(2), closure(0, telling7), closure(1, telling7), do("eq?", 2, 0, 1))), "#f", 4)
	wantValue(t, main(block(gives(2), closure(0, telling7), move(1, 0), do("eq?", 2, 0, 1))), "#t", 4)
	// What is too big to be told.
	c := main(block(gives(2), number(0, 1000), do("make-vector", 2, 0, 0)))
	wantRun(t, c, "", api.Outcome{Steps: 3})
}

// An instruction that is wrong has taken its step; nothing is done behind it.
func TestWrongPrimitives(t *testing.T) {
	greatest := constant(0, "1152921504606846975")
	for _, x := range []struct {
		i     api.Ins
		wrong api.Errno
	}{
		{do("+", 2, 0, 0), api.ErrRunOver}, {do("quotient", 2, 0, 1), api.ErrRunZero}, {do("integer->char", 2, 0), api.ErrRunRange}, {do("make-vector", 2, 0, 0), api.ErrRunRange},
		{do("car", 2, 0), api.ErrRunType}, {do("+", 2, 0, 3), api.ErrRunType}, {do("%unbox", 2, 0), api.ErrRunType}, {do("error", 2), api.ErrRunUser},
		{do("write-u8", 2, 0), api.ErrRunRange}, {do("write-u8", 2, 3), api.ErrRunType},
	} {
		wantRun(t, main(block(gives(2), greatest, number(1, 0), number(4, 65), do("write-u8", 5, 4), x.i, do("write-u8", 5, 4))), "", outcome(x.wrong, "", "A", 5))
	}
}

func TestReading(t *testing.T) {
	all := block(gives(0), do("read-u8", 0), do("read-u8", 1), do("read-u8", 2), do("cons", 2, 1, 2), do("cons", 0, 0, 2))
	wantRun(t, main(all), "abc", outcome(api.OK, "(97 98 . 99)", "", 6))
	wantRun(t, main(all), "a\xff", outcome(api.OK, "(97 255 . eof)", "", 6))
	wantRun(t, main(all), "\x00\x80\xc3\xa9", outcome(api.OK, "(0 128 . 195)", "", 6))
	wantRun(t, main(all), "", outcome(api.OK, "(eof eof . eof)", "", 6))
	// A loop that writes what it reads.
	echo := main(
		block(ifs(1, 1, 2), do("read-u8", 0), do("eof-object?", 1, 0)),
		block(gives(2), constant(2, "end")),
		block(jump(0), do("write-u8", 3, 0)),
	)
	every := ""
	for n := range 256 {
		every += string([]byte{byte(n)})
	}
	for _, s := range []string{"", "x", "hello", every, strings.Repeat(every, 8)} {
		wantRun(t, echo, s, outcome(api.OK, "end", s, 5*len(s)+5))
	}
}

func TestWriting(t *testing.T) {
	for n := range 256 {
		wantRun(t, main(block(gives(1), number(0, n), do("write-u8", 1, 0))), "", outcome(api.OK, "void", string([]byte{byte(n)}), 3))
	}
	for _, s := range []string{"-1", "256", "1152921504606846975", "-1152921504606846976"} {
		wantWrong(t, main(block(gives(1), constant(0, s), do("write-u8", 1, 0))), api.ErrRunRange, 2)
	}
	for _, s := range []string{"#f", "#\\a", "a", "()"} {
		wantWrong(t, main(block(gives(1), constant(0, s), do("write-u8", 1, 0))), api.ErrRunType, 2)
	}
	wantWrong(t, main(block(gives(1), do("write-u8", 1, 0))), api.ErrRunType, 1)
}

func TestWinders(t *testing.T) {
	wantValue(t, main(block(gives(0), do("%winders", 0))), "()", 2)
	wantValue(t, main(block(gives(2), number(0, 5), do("%wind!", 1, 0), number(0, 6), do("%winders", 2), do("cons", 2, 1, 2))), "(void . 5)", 6)
	// They are as they were wound last, wherever that was, also when a continuation is gone back to.
	wind := proc(1, 0, 3, block(tail(0, 1), number(1, 5), do("%wind!", 2, 1)))
	c := code(proc(0, 0, 2, block(callCC(1, 1, 0), closure(0, 1)), block(gives(0), do("%winders", 0), do("cons", 0, 1, 0))), wind)
	wantValue(t, c, "(5 . 5)", 8)
}

func TestJumpsAndTests(t *testing.T) {
	wantValue(t, main(block(jump(2)), block(gives(0)), block(jump(1), number(0, 5))), "5", 4)
	// What is #f is Else's, all other values are Next's.
	for _, x := range []struct {
		i     api.Ins
		shown string
	}{
		{constant(0, "#f"), "2"}, {constant(0, "#t"), "1"}, {constant(0, "0"), "1"}, {constant(0, "()"), "1"}, {constant(0, "#\\x00"), "1"}, {constant(0, "f"), "1"},
		{do("void", 0), "1"}, {do("%unset", 0), "1"}, {do("read-u8", 0), "1"}, {closure(0, telling7), "1"}, {do("pair?", 0, 1), "2"}, {do("null?", 0, 1), "2"}, {do("eq?", 0, 1, 1), "1"}, {do("cons", 0, 1, 1), "1"},
	} {
		wantValue(t, main(block(ifs(0, 2, 1), x.i), block(gives(3), number(3, 2)), block(gives(3), number(3, 1))), x.shown, 4)
	}
	wantValue(t, main(block(ifs(0, 1, 1)), block(gives(0))), "unset", 2)
	// For ever.
	wantOutcome(t, main(block(jump(0))), "", 1000, outcome(api.ErrRunSteps, "", "", 1000))
	wantOutcome(t, main(block(ifs(0, 0, 1)), block(gives(0))), "", 1000, outcome(api.ErrRunSteps, "", "", 1000))
}

func TestSteps(t *testing.T) {
	c := main(block(jump(1), number(0, 65), do("write-u8", 1, 0)), block(gives(0), do("write-u8", 1, 0)))
	for steps, want := range []api.Outcome{
		outcome(api.ErrRunSteps, "", "", 0), outcome(api.ErrRunSteps, "", "", 1), outcome(api.ErrRunSteps, "", "A", 2), outcome(api.ErrRunSteps, "", "A", 3),
		outcome(api.ErrRunSteps, "", "AA", 4), outcome(api.OK, "65", "AA", 5), outcome(api.OK, "65", "AA", 5),
	} {
		wantOutcome(t, c, "", steps, want)
	}
	// There is no step for what would be wrong.
	wantOutcome(t, main(block(gives(0), do("error", 0))), "", 0, outcome(api.ErrRunSteps, "", "", 0))
	wantOutcome(t, main(block(tail(0))), "", 0, outcome(api.ErrRunSteps, "", "", 0))
}

func TestWhatMayNotBeRun(t *testing.T) {
	good := one(1, gives(0))
	for _, steps := range []int{-1, -1 << 62, api.MaxSteps + 1, 1 << 62} {
		for _, c := range []api.Code{good, {}, one(2001, gives(0))} {
			if got := Run(c, "abc", steps); !isSame(got, api.Outcome{Err: api.ErrArg}) {
				t.Error(steps, told(got))
			}
		}
	}
	for _, steps := range []int{0, 1, api.MaxSteps} {
		if got := Run(one(0, gives(0), do("write-u8", 0, 0)), "abc", steps); !isSame(got, api.Outcome{Err: api.ErrCodeForm}) {
			t.Error(told(got))
		}
		if got := Run(one(2001, gives(0)), "abc", steps); !isSame(got, api.Outcome{Err: api.ErrCodeMany}) {
			t.Error(told(got))
		}
	}
}

func TestClosures(t *testing.T) {
	// What is held is what stood in the registers then.
	holds := code(
		proc(0, 0, 4, block(tail(3), number(0, 1), number(1, 2), closure(3, 1, 1, 0, 2, 1), number(0, 5), number(1, 6), number(2, 7))),
		proc(0, 4, 5, block(gives(0), held(0, 0), held(1, 1), held(2, 2), held(3, 3), do("cons", 0, 0, 1), do("cons", 2, 2, 3), do("cons", 0, 0, 2))),
	)
	wantValue(t, holds, "((2 . 1) unset . 2)", 15)
	// Each closure of a function holds its own.
	wantValue(t, main(
		block(calls(4, 1, 2), number(0, 1), closure(2, tellingHeld, 0), number(0, 2), closure(3, tellingHeld, 0)),
		block(calls(5, 2, 3)),
		block(gives(6), do("cons", 6, 4, 5)),
	), "(1 . 2)", 12)
	// A register may be filled with a closure that holds what stood in it; then it may be told.
	wantValue(t, main(block(tail(0), number(0, 5), closure(0, tellingHeld, 0))), "5", 5)
	wantValue(t, main(block(gives(0), closure(0, telling7))), "procedure", 2)
	// As many as may be.
	l := []api.Ins{}
	which := []int{}
	for at := range api.MaxHolds {
		which = append(which, (at*7+3)%500)
	}
	for at := range 500 {
		l = append(l, number(at, 2*at))
	}
	l = append(l, closure(500, 1, which...))
	for _, at := range []int{0, 1, 499, 500, 998, 999} {
		want := []string{"6", "20", "992", "6", "978", "992"}[slices.Index([]int{0, 1, 499, 500, 998, 999}, at)]
		wantValue(t, code(proc(0, 0, 501, block(tail(500), l...)), proc(0, api.MaxHolds, 1, block(gives(0), held(0, at)))), want, 504)
	}
}

func TestTies(t *testing.T) {
	// What is held is another value from then on; the register from which it came is as it was, and so is what other closures hold.
	wantValue(t, main(
		block(calls(4, 1, 1), number(0, 1), closure(1, tellingHeld, 0), closure(2, tellingHeld, 0), number(3, 2), tie(0, 1, 3)),
		block(calls(5, 2, 2)),
		block(calls(6, 3, 1), tie(0, 1, 5), tie(0, 2, 4)),
		block(calls(7, 4, 2)),
		block(gives(4), do("cons", 4, 4, 5), do("cons", 6, 6, 7), do("cons", 4, 4, 6), do("cons", 4, 4, 0)),
	), "(((2 . 1) 1 . 2) . 1)", 24)
	// It may hold itself; two may hold one another.
	again := code(
		proc(0, 0, 2, block(tail(0, 1), closure(0, 1, 0), tie(0, 0, 0), number(1, 3))),
		proc(1, 1, 4, block(ifs(2, 1, 2), number(1, 0), do("=", 2, 0, 1)), block(gives(3), held(3, 0)), block(tail(3, 0), number(1, 1), do("-", 0, 0, 1), held(3, 0), number(1, 65), do("write-u8", 1, 1))),
	)
	wantRun(t, again, "", outcome(api.OK, "procedure", "AAA", 4+3*9+5))
	// At each place; also while its function runs, and in a frame that is gone back to.
	three := proc(0, 3, 6, block(calls(5, 1, 3, 3), held(3, 0)), block(gives(0), held(0, 0), held(1, 1), held(2, 2), do("cons", 1, 1, 2), do("cons", 0, 0, 1)))
	for at, shown := range []string{"(9 1 . 2)", "(procedure 9 . 2)", "(procedure 1 . 9)"} {
		c := code(
			proc(0, 0, 4, block(tail(3), number(1, 1), number(2, 2), closure(0, 2, 3), closure(3, 1, 0, 1, 2), tie(0, 0, 3))),
			three,
			proc(1, 1, 3, block(gives(0), held(2, 0), number(1, 9), tie(at, 2, 1))),
		)
		wantValue(t, c, shown, 18)
	}
}

func TestWrongTies(t *testing.T) {
	// What is no closure, the continuation too.
	for _, i := range []api.Ins{number(0, 5), constant(0, "#f"), do("void", 0), do("cons", 0, 1, 1), do("%box", 0, 1), constant(0, "()")} {
		wantWrong(t, main(block(gives(0), i, tie(0, 0, 1))), api.ErrRunType, 2)
	}
	wantWrong(t, main(block(gives(0), tie(0, 0, 0))), api.ErrRunType, 1)
	ties := proc(1, 0, 2, block(gives(0), tie(0, 0, 1)))
	wantWrong(t, code(proc(0, 0, 1, block(tailCC(0), closure(0, 1))), ties), api.ErrRunType, 3)
	wantWrong(t, code(proc(0, 0, 1, block(callCC(0, 0, 0), closure(0, 1))), ties), api.ErrRunType, 3)
	// Places at which it holds nothing.
	for _, at := range []int{1, 2, 1000, 1 << 40, 1<<62 + 1} {
		wantWrong(t, main(block(gives(0), closure(0, tellingHeld, 1), tie(at, 0, 0))), api.ErrRunType, 2)
	}
	for _, at := range []int{0, 1, 5} {
		wantWrong(t, main(block(gives(0), closure(0, telling7), tie(at, 0, 0))), api.ErrRunType, 2)
	}
	wantValue(t, main(block(gives(0), closure(0, tellingHeld, 1), tie(0, 0, 0))), "procedure", 3)
}
