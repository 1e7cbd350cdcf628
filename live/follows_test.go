package live

import (
	"fmt"
	"math/rand"
	"scrimshaw/api"
	"scrimshaw/box"
	"scrimshaw/data"
	"scrimshaw/expand"
	"scrimshaw/fix"
	"scrimshaw/flow"
	"scrimshaw/lift"
	"scrimshaw/read"
	"scrimshaw/samples"
	"scrimshaw/vm"
	"slices"
	"strconv"
	"testing"
)

// P17.2: what stands in registers that are not live is of no moment for how a code runs.

// laid is the code of a program's source.
func laid(t *testing.T, source string) api.Code {
	t.Helper()
	l, _, wrong := read.Read(source)
	if wrong != api.OK {
		t.Fatal(source, wrong)
	}
	e, _, wrong := expand.Program(l, api.MaxFuel)
	for _, pass := range []func(api.Expr) (api.Expr, api.Errno){fix.Fix, box.Box} {
		if wrong == api.OK {
			e, wrong = pass(e)
		}
	}
	if wrong != api.OK {
		t.Fatal(source, wrong)
	}
	lifted, wrong := lift.Lift(e)
	if wrong != api.OK {
		t.Fatal(source, wrong)
	}
	c, wrong := flow.Flow(lifted)
	if wrong != api.OK {
		t.Fatal(source, wrong)
	}
	return c
}

// told is how a run ended, but its steps.
func told(o api.Outcome) string {
	s, _ := data.Text(o.Shown)
	return fmt.Sprintf("%d %q %s %t", o.Err, o.Output, s, o.Whole)
}

// spoilt is the same code, of which now and then registers that are not live are filled: at the beginning of a block, or right behind an instruction. It tells in how many places.
func (g grower) spoilt(c api.Code) (api.Code, int) {
	out := api.Code{Procs: slices.Clone(c.Procs)}
	many := 0
	for at, p := range c.Procs {
		in := In(p)
		out.Procs[at].Blocks = slices.Clone(p.Blocks)
		for n, b := range p.Blocks {
			l := g.fills(p, in[n])
			for i, live := range Behind(p, n) {
				l = append(append(l, b.Ins[i]), g.fills(p, live)...)
			}
			many += len(l) - len(b.Ins)
			out.Procs[at].Blocks[n].Ins = l
		}
	}
	return out, many
}

// fills are instructions that fill some registers that are not live, with anything.
func (g grower) fills(p api.Proc, live []int) []api.Ins {
	var out []api.Ins
	for range g.Intn(3) {
		if p.Regs == 0 {
			break
		}
		anything := []api.Datum{{Kind: api.DatInt, Int: g.Intn(300)}, {Kind: api.DatBool}, {Kind: api.DatSymbol, Text: "spoilt"}, {Kind: api.DatList}}
		i := api.Ins{Op: "const", To: g.Intn(p.Regs), Const: anything[g.Intn(len(anything))]}
		if !slices.Contains(live, i.To) {
			out = append(out, i)
		}
	}
	return out
}

// wantNoMatter is that a code, spoilt, runs as before, if that is so short; it tells how many places were spoilt.
func (g grower) wantNoMatter(t *testing.T, c api.Code, input string, steps int) int {
	t.Helper()
	want := vm.Run(c, input, steps)
	if want.Err == api.ErrRunSteps {
		return 0
	}
	spoilt, many := g.spoilt(c)
	if got := vm.Run(spoilt, input, api.MaxSteps); told(got) != told(want) {
		t.Errorf("%s, want %s", told(got), told(want))
		for at, p := range c.Procs {
			t.Logf("function %d:\n%s", at, textOf(p))
		}
	}
	return many
}

func TestProgramsSpoilt(t *testing.T) {
	g := grower{rand.New(rand.NewSource(1720))}
	many := 0
	for _, source := range samples.Programs() {
		c := laid(t, source)
		for range 6 {
			many += g.wantNoMatter(t, c, "hello"[:g.Intn(6)], api.MaxSteps/10)
		}
		for _, p := range c.Procs {
			wantAll(t, p)
		}
	}
	if many < 5000 {
		t.Error(many)
	}
}

// maker grows a function of a code that may be.
type maker struct {
	grower
	function, blocks, regs int
}

const functions = 4

// code is one of functions with one parameter, whose closures hold one value. What is called in it is mostly a closure that was made just then, of a function behind it, or the parameter; nothing else fails.
func (g grower) code() api.Code {
	var c api.Code
	for at := range functions {
		m := maker{g, at, 3 + g.Intn(5), 4 + g.Intn(5)}
		p := api.Proc{Params: 1, Holds: 1, Regs: m.regs}
		if at == 0 {
			p.Params, p.Holds = 0, 0
		}
		for n := range m.blocks {
			p.Blocks = append(p.Blocks, m.block(n))
		}
		c.Procs = append(c.Procs, p)
	}
	return c
}

func (m maker) reg() int { return m.Intn(m.regs) }

func (m maker) closure(to int) api.Ins {
	return api.Ins{Op: "closure", To: to, Num: min(m.function+1+m.Intn(2), functions-1), Args: []int{m.reg()}}
}

func (m maker) instructions() []api.Ins {
	to := m.reg()
	switch m.Intn(9) {
	case 0:
		return []api.Ins{{Op: "const", To: to, Const: api.Datum{Kind: m.Intn(2), Int: m.Intn(2)}}}
	case 1:
		return []api.Ins{do("move", to, m.reg())}
	case 2:
		return []api.Ins{do("cons", to, m.reg(), m.reg())}
	case 3:
		return []api.Ins{do("eq?", to, m.reg(), m.reg())}
	case 4:
		return []api.Ins{do("procedure?", to, m.reg())}
	case 5:
		return []api.Ins{do("%unset", to)}
	case 6:
		return []api.Ins{{Op: "const", To: to, Const: api.Datum{Kind: api.DatInt, Int: 65 + m.Intn(26)}}, do("write-u8", m.reg(), to)}
	case 7:
		if m.function > 0 {
			return []api.Ins{{Op: "held", To: to}}
		}
	}
	return []api.Ins{m.closure(to), {Op: "tie", Args: []int{to, m.reg()}}}
}

func (m maker) block(n int) api.Block {
	var b api.Block
	for range m.Intn(5) {
		b.Ins = append(b.Ins, m.instructions()...)
	}
	next, other := min(n+1+m.Intn(2), m.blocks-1), min(n+1, m.blocks-1)
	if m.one(6) {
		next = m.Intn(m.blocks)
	}
	switch {
	case n == m.blocks-1:
		b.End = gives(m.reg())
	case m.function < functions-1 && m.one(2):
		called := m.reg()
		b.Ins = append(b.Ins, m.closure(called))
		b.End = []api.End{calls(m.reg(), next, called, m.reg()), callCC(m.reg(), next, called), tailCC(called), tail(called, m.reg())}[m.pick(0, 0, 1, 1, 2, 3)]
	case m.function > 0 && m.one(4):
		b.End = tail(0, m.reg())
	case m.one(4):
		b.End = jump(next)
	default:
		b.End = ifs(m.reg(), next, other)
	}
	return b
}

func TestCodesSpoilt(t *testing.T) {
	for seed := range 8 {
		t.Run(strconv.Itoa(seed), func(t *testing.T) {
			t.Parallel()
			g := grower{rand.New(rand.NewSource(int64(1740 + seed)))}
			came, many := map[api.Errno]int{}, 0
			for range 600 {
				c := g.code()
				if wrong := vm.Check(c); wrong != api.OK {
					t.Fatal(wrong)
				}
				came[vm.Run(c, "", 1000).Err]++
				many += g.wantNoMatter(t, c, "", 1000)
				if t.Failed() {
					return
				}
			}
			if came[api.OK] < 200 || came[api.ErrRunProc] < 15 || many < 10000 {
				t.Error(came, many)
			}
		})
	}
}
