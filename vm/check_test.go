package vm

import (
	"scrimshaw/api"
	"slices"
	"strings"
	"testing"
)

// P15.1.

// with is a code whose first function has the block, and some others that may be called and held: 1 holds nothing, 2 holds three values, 3 has four registers and holds two.
func with(i api.Ins) api.Code {
	return code(
		proc(0, 0, 5, block(gives(0), i)),
		proc(0, 0, 1, block(gives(0))),
		proc(2, 3, 2, block(gives(0))),
		proc(1, 2, 5, block(gives(0), i)),
	)
}

func TestGood(t *testing.T) {
	for _, c := range []api.Code{
		one(1, gives(0)),
		one(0, jump(0)),
		one(1, tail(0)),
		one(1, tailCC(0)),
		one(1, ifs(0, 0, 0)),
		one(1, calls(0, 0, 0)),
		one(1, callCC(0, 0, 0)),
		one(1, gives(0), number(0, 5)),
		one(api.MaxRegs, gives(api.MaxRegs-1), number(api.MaxRegs-1, 5), move(0, api.MaxRegs-1)),
		code(proc(0, 0, 1, block(gives(0))), proc(6, 1000, 6, block(gives(5), held(0, 999)))),
		code(proc(0, 0, 0, block(jump(0))), proc(0, 0, 0, block(jump(0)))),
	} {
		wantMay(t, c, textOf(c))
	}
	// Lists that are empty, but not nil.
	c := one(1, api.End{Kind: api.EndReturn, Args: []int{}}, api.Ins{Op: "void", Args: []int{}, Const: api.Datum{List: []api.Datum{}}})
	wantMay(t, c)
	c.Procs[0].Blocks[0].Ins[0] = api.Ins{Op: "const", Const: api.Datum{Kind: api.DatList, List: []api.Datum{}}}
	wantMay(t, c)
}

func TestNoFunctions(t *testing.T) {
	wantForm(t, api.Code{})
	wantForm(t, api.Code{Procs: []api.Proc{}})
	wantForm(t, api.Code{Procs: make([]api.Proc, 1)})
}

func TestNumbersOfAFunction(t *testing.T) {
	good := proc(0, 0, 6, block(gives(0)))
	for i, bend := range []func(p *api.Proc){
		func(p *api.Proc) { p.Params = -1 },
		func(p *api.Proc) { p.Params = 7 },
		func(p *api.Proc) { p.Params, p.Regs = 7, 7 },
		func(p *api.Proc) { p.Params = 1 << 40 },
		func(p *api.Proc) { p.Params, p.Regs, p.Blocks = 3, 2, []api.Block{block(gives(0))} },
		func(p *api.Proc) { p.Params, p.Regs = 6, 5 },
		func(p *api.Proc) { p.Holds = -1 },
		func(p *api.Proc) { p.Holds = api.MaxHolds + 1 },
		func(p *api.Proc) { p.Regs = -1 },
		func(p *api.Proc) { p.Regs, p.Blocks = -1, []api.Block{block(jump(0))} },
		func(p *api.Proc) { p.Blocks = nil },
		func(p *api.Proc) { p.Blocks = []api.Block{} },
	} {
		c := code(good, good, good)
		wantMay(t, c)
		at := i % 3
		bend(&c.Procs[at])
		wantForm(t, c, i)
		c = code(good, good, good)
		bend(&c.Procs[2])
		wantForm(t, c, i, "the last one")
	}
	for _, p := range []api.Proc{proc(1, 0, 1, block(gives(0))), proc(0, 1, 1, block(gives(0))), proc(6, 1000, 6, block(gives(0)))} {
		wantForm(t, code(p))
		wantForm(t, code(p, good))
		wantMay(t, code(good, p))
	}
	// Regs from Params on.
	for params := range api.MaxParams + 1 {
		wantMay(t, code(good, proc(params, 0, params, block(jump(0)))))
		wantForm(t, code(good, proc(params, 0, params-1, block(jump(0)))))
	}
}

// instructions are one of each, with all fields that it has other than 0 where they may be.
func instructions() []api.Ins {
	l := []api.Ins{number(4, -7), move(4, 3), closure(4, 1), closure(4, 2, 3, 0, 3), closure(4, 3, 2, 1), tie(3, 2, 1), held(4, 1)}
	for _, op := range primitives() {
		l = append(l, do(op, 4, []int{1, 2, 3}[:otherArity(op)]...))
	}
	return l
}

func primitives() []string {
	return strings.Fields("read-u8 error void %winders %unset null? pair? vector? string? symbol? char? integer? boolean? procedure? eof-object? car cdr vector-length string-length char->integer integer->char write-u8 %box %unbox %wind! + - * quotient remainder < = eq? cons set-car! set-cdr! make-vector vector-ref make-string string-ref %set-box! vector-set! string-set!")
}

// in is a code with the instruction where it may be, if it is right.
func in(i api.Ins) api.Code {
	c := with(i)
	if i.Op == "held" {
		c.Procs[0].Blocks[0].Ins = nil
	}
	return c
}

func TestInstructions(t *testing.T) {
	if l := primitives(); len(l) != 43 {
		t.Error(len(l))
	}
	for _, i := range instructions() {
		wantMay(t, in(i), i)
		none := in(i)
		for at := range none.Procs {
			none.Procs[at].Regs = none.Procs[at].Params
			none.Procs[at].Blocks[0].End = jump(0)
		}
		wantForm(t, none, i, "without registers")
		// To.
		for _, to := range []int{0, 1, 4} {
			bent := i
			bent.To = to
			if i.Op == "tie" && to > 0 {
				wantForm(t, in(bent), bent)
			} else {
				wantMay(t, in(bent), bent)
			}
		}
		for _, to := range []int{-1, 5, 6, 1 << 40, -1 << 40} {
			bent := i
			bent.To = to
			wantForm(t, in(bent), bent)
		}
		// Args.
		for at := range i.Args {
			for _, arg := range []int{0, 4} {
				bent := i
				bent.Args = slices.Clone(i.Args)
				bent.Args[at] = arg
				wantMay(t, in(bent), bent)
			}
			for _, arg := range []int{-1, 5, 1 << 40, -1 << 40} {
				bent := i
				bent.Args = slices.Clone(i.Args)
				bent.Args[at] = arg
				wantForm(t, in(bent), bent)
			}
		}
		for n := range 8 {
			bent := i
			bent.Args = slices.Repeat([]int{1}, n)
			if n != len(i.Args) {
				wantForm(t, in(bent), bent)
			}
		}
		bent := i
		bent.Args = make([]int, 1<<20)
		wantForm(t, in(bent), i, "with many args")
	}
}

func TestNum(t *testing.T) {
	for _, i := range instructions() {
		for _, num := range []int{-1 << 40, -1, 0, 1, 2, 3, 4, 5, 1000, 1 << 40} {
			bent := i
			bent.Num = num
			var right bool
			switch i.Op {
			case "held":
				right = num == 0 || num == 1
			case "closure":
				right = num > 0 && num < 4 && len(i.Args) == []int{0, 0, 3, 2}[num]
			case "tie":
				right = num >= 0
			default:
				right = num == 0
			}
			if right {
				wantMay(t, in(bent), bent)
			} else {
				wantForm(t, in(bent), bent)
			}
		}
	}
	// The first function holds nothing, the last but one three values.
	for at, holds := range []int{0, 0, 3, 2} {
		for num := range 5 {
			c := with(do("void", 0))
			c.Procs[at].Blocks[0].Ins = []api.Ins{held(0, num)}
			if num < holds {
				wantMay(t, c, at, num)
			} else {
				wantForm(t, c, at, num)
			}
		}
	}
	// A closure holds as much as may be.
	for holds, is := range map[int]bool{0: false, 999: false, 1000: true, 1001: false} {
		c := code(proc(0, 0, 1, block(gives(0), closure(0, 1, make([]int, holds)...))), proc(0, api.MaxHolds, 1, block(gives(0))))
		if is {
			wantMay(t, c)
		} else {
			wantForm(t, c, holds)
		}
	}
}

func TestConst(t *testing.T) {
	for _, s := range []string{"#f", "#t", "0", "5", "-5", "1152921504606846975", "-1152921504606846976", "#\\a", "#\\x00", "#\\xff", "a", "unset", "%callcc", "()"} {
		wantMay(t, in(constant(0, s)), s)
	}
	for _, d := range notConstants() {
		wantForm(t, in(api.Ins{Op: "const", Const: d}), d.Kind)
	}
	// All others have none; but that of #f is empty.
	for _, i := range instructions() {
		if i.Op == "const" {
			continue
		}
		for _, d := range append(notConstants(), datum("#t"), datum("0"), datum("#\\x00"), datum("a"), datum("()")) {
			i.Const = d
			wantForm(t, in(i), i.Op, d.Kind)
		}
		i.Const = datum("#f")
		wantMay(t, in(i), i)
	}
}

func notConstants() []api.Datum {
	return []api.Datum{
		{Int: 2}, {Int: -1}, {Text: "a"}, {List: make([]api.Datum, 1)},
		num(api.MaxInt + 1), num(-api.MaxInt - 2), {Kind: api.DatInt, Text: "5"}, {Kind: api.DatInt, List: make([]api.Datum, 1)},
		{Kind: api.DatChar, Int: 256}, {Kind: api.DatChar, Int: -1}, {Kind: api.DatChar, Text: "a"},
		{Kind: api.DatSymbol}, {Kind: api.DatSymbol, Text: "5"}, {Kind: api.DatSymbol, Text: "a b"}, {Kind: api.DatSymbol, Text: strings.Repeat("a", api.MaxName+1)}, {Kind: api.DatSymbol, Text: "a", Int: 1},
		{Kind: api.DatList, Int: 1}, {Kind: api.DatList, Text: "a"}, datum("(1)"), datum("(())"), {Kind: api.DatList, List: make([]api.Datum, 100000)},
		datum("\"a\""), {Kind: api.DatString}, datum("(1 . 2)"), {Kind: api.DatDotted}, datum("#()"), datum("#(1)"),
		{Kind: api.DatKinds}, {Kind: -1},
	}
}

func TestNoSuchInstruction(t *testing.T) {
	for _, op := range []string{"", "callcc", "%callcc", "call/cc", "CONST", "const ", " const", "Move", "quote", "ref", "set!", "call", "if", "list", "u8", "return", "box", "\x00", "held\x00", strings.Repeat("a", 1<<16)} {
		for n := range 4 {
			wantForm(t, in(do(op, 0, []int{1, 2, 3}[:n]...)), op, n)
		}
	}
}

// blocks is a code of two functions, the first of which has three blocks and four registers; the second one, of one block and register, has nothing else wrong where there is something wrong.
func blocks(e api.End) api.Code {
	return code(proc(0, 0, 4, block(jump(1)), block(e), block(gives(3))), proc(0, 0, 1, block(gives(0))))
}

func TestEnds(t *testing.T) {
	// What there is of each kind: Reg, Args, To, Next, Else.
	for kind, has := range []string{"   n ", "r  ne", "r    ", "ra   ", "ratn ", "r    ", "r tn "} {
		full := api.End{Kind: kind}
		fields := []struct {
			letter string
			field  func(e *api.End) *int
			many   int
		}{
			{"r", func(e *api.End) *int { return &e.Reg }, 4},
			{"t", func(e *api.End) *int { return &e.To }, 4},
			{"n", func(e *api.End) *int { return &e.Next }, 3},
			{"e", func(e *api.End) *int { return &e.Else }, 3},
		}
		wantMay(t, blocks(full), full)
		for _, f := range fields {
			for _, n := range []int{-1 << 40, -1, 0, 1, 2, 3, 4, 5, 1 << 40} {
				e := full
				*f.field(&e) = n
				if n == 0 || strings.Contains(has, f.letter) && n > 0 && n < f.many {
					wantMay(t, blocks(e), e)
				} else {
					wantForm(t, blocks(e), e)
				}
			}
		}
		for n := range 9 {
			for _, arg := range []int{-1, 0, 3, 4} {
				e := full
				e.Args = make([]int, n)
				if n > 0 {
					e.Args[n-1] = arg
				}
				if n == 0 || strings.Contains(has, "a") && n <= 6 && arg >= 0 && arg < 4 {
					wantMay(t, blocks(e), e)
				} else {
					wantForm(t, blocks(e), e)
				}
			}
		}
		e := full
		e.Args = make([]int, 1<<20)
		wantForm(t, blocks(e), kind, "with many args")
		// Where there are no registers, what needs none may be.
		c := code(proc(0, 0, 0, block(full)))
		if strings.Contains(has, "r") {
			wantForm(t, c, kind)
		} else {
			wantMay(t, c, kind)
		}
	}
	for _, kind := range []int{-1, api.EndKinds, api.EndKinds + 1, 1 << 40, -1 << 40} {
		wantForm(t, blocks(api.End{Kind: kind}), kind)
	}
}

// Wherever it stands.
func TestOneIsWrong(t *testing.T) {
	good := func() api.Code {
		p := func() api.Proc {
			return proc(0, 0, 2, block(jump(1), number(0, 1), number(1, 1)), block(ifs(0, 0, 1), number(0, 1), number(1, 1)))
		}
		return code(p(), p(), p())
	}
	wantMay(t, good())
	for p := range 3 {
		for b := range 2 {
			c := good()
			c.Procs[p].Blocks[b].End = gives(2)
			wantForm(t, c, p, b)
			for i := range 2 {
				c := good()
				c.Procs[p].Blocks[b].Ins[i] = do("%callcc", 0, 1)
				wantForm(t, c, p, b, i)
			}
		}
	}
}

// filled is a code of so many functions, that have so many blocks and instructions in all.
func filled(functions, parts int) api.Code {
	c := api.Code{}
	for range functions {
		c.Procs = append(c.Procs, proc(0, 0, 1, block(gives(0))))
	}
	for i := range parts - functions {
		p := &c.Procs[i%functions]
		if i%3 == 0 {
			p.Blocks = append(p.Blocks, block(gives(0)))
		} else {
			b := &p.Blocks[len(p.Blocks)-1]
			b.Ins = append(b.Ins, do("void", 0))
		}
	}
	return c
}

func TestHowMany(t *testing.T) {
	for functions, want := range map[int]api.Errno{1: api.OK, 299: api.OK, 300: api.OK, 301: api.ErrCodeMany, 1000: api.ErrCodeMany} {
		wantOf(t, filled(functions, functions), want)
	}
	for _, functions := range []int{1, 2, 7, 300} {
		wantOf(t, filled(functions, 4095), api.OK)
		wantOf(t, filled(functions, 4096), api.OK)
		wantOf(t, filled(functions, 4097), api.ErrCodeMany)
		wantOf(t, filled(functions, 9000), api.ErrCodeMany)
	}
	wantOf(t, code(proc(0, 0, 1, make([]api.Block, 4096)...)), api.OK)
	wantOf(t, code(proc(0, 0, 1, make([]api.Block, 4097)...)), api.ErrCodeMany)
	wantOf(t, one(1, gives(0), slices.Repeat([]api.Ins{do("void", 0)}, 4095)...), api.OK)
	wantOf(t, one(1, gives(0), slices.Repeat([]api.Ins{do("void", 0)}, 4096)...), api.ErrCodeMany)
	for regs, want := range map[int]api.Errno{1999: api.OK, 2000: api.OK, 2001: api.ErrCodeMany, 1 << 40: api.ErrCodeMany} {
		wantOf(t, one(regs, gives(0)), want)
		wantOf(t, code(proc(0, 0, 1, block(gives(0))), proc(0, 0, 1, block(gives(0))), proc(0, 0, regs, block(gives(0)))), want)
	}
}

func wantOf(t *testing.T, c api.Code, want api.Errno) {
	t.Helper()
	if want == api.OK {
		wantMay(t, c)
	} else {
		wantRefused(t, c, want)
	}
}

// ErrCodeMany comes first, wherever it is.
func TestManyAheadOfForm(t *testing.T) {
	wantRefused(t, code(proc(-1, -1, 2001)), api.ErrCodeMany)
	wantRefused(t, code(proc(7, 1001, 0), proc(0, 0, 2001)), api.ErrCodeMany)
	wantRefused(t, api.Code{Procs: make([]api.Proc, 301)}, api.ErrCodeMany)
	wantForm(t, api.Code{Procs: make([]api.Proc, 300)})
	wantRefused(t, one(1, gives(1), make([]api.Ins, 4096)...), api.ErrCodeMany)
	wantForm(t, one(1, gives(1), make([]api.Ins, 4095)...))
	wantRefused(t, code(proc(0, 0, 1, block(gives(5))), proc(0, 0, -1, make([]api.Block, 4096)...)), api.ErrCodeMany)
	wantForm(t, code(proc(0, 0, 1, block(gives(5))), proc(0, 0, -1, make([]api.Block, 4095)...)))
}

// What is looked at is no more than there may be, however long lists are.
func TestChecksOfLongLists(t *testing.T) {
	wide := make([]api.Ins, 1<<16)
	l := slices.Repeat([]api.Block{{Ins: wide}}, 1<<16)
	c := api.Code{Procs: slices.Repeat([]api.Proc{{Blocks: l}}, 300)}
	if e := Check(c); e != api.ErrCodeMany {
		t.Error(e)
	}
	if e := Check(api.Code{Procs: make([]api.Proc, 1<<20)}); e != api.ErrCodeMany {
		t.Error(e)
	}
	// Each instruction may have the same long lists.
	args, within := make([]int, 1<<24), make([]api.Datum, 1<<16)
	within[0] = api.Datum{Kind: api.DatList, List: within}
	for _, op := range []string{"const", "closure", "held", "tie", "cons", "x"} {
		i := api.Ins{Op: op, Args: args, Num: 1, Const: api.Datum{Kind: api.DatList, List: within}}
		c := one(1, gives(0), slices.Repeat([]api.Ins{i}, 4094)...)
		for _, holds := range []int{len(args), api.MaxHolds} {
			c.Procs = append(c.Procs[:1], proc(0, holds, 1, block(gives(0))))
			if e := Check(c); e != api.ErrCodeForm {
				t.Error(op, holds, e)
			}
		}
	}
}
