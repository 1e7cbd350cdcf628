package vm

import (
	"math/rand"
	"scrimshaw/api"
	"slices"
	"strconv"
	"strings"
	"testing"
)

// What the chapter promises, and what follows from it (P15.3), held against the other way on codes that are grown.

// sort is what a register has, if all goes well.
type sort int

const (
	aNumber sort = iota
	aProc        // a closure that takes a number, or a continuation; the winders, too
	aValue       // any
	aTruth
	aTaker // a closure that takes an aProc
	aPair  // a closure that takes a number and an aProc
	sorts
)

type grower struct {
	*rand.Rand
	c     api.Code
	takes []sort // of each function what its first register has
	now   int    // the function
}

func (g *grower) one(in int) bool { return g.Intn(in) == 0 }

func (g *grower) pick(l ...int) int { return l[g.Intn(len(l))] }

func (g *grower) proc() *api.Proc { return &g.c.Procs[g.now] }

// isLast tells whether the function is one of the last three, which take one sort each.
func (g *grower) isLast() bool { return g.now >= len(g.c.Procs)-3 }

// grown is a code of functions of which each makes closures of those behind it, the last three of any, which they hardly call: so that many runs end.
func (g *grower) grown() api.Code {
	g.c, g.takes = api.Code{}, nil
	most := g.pick(12, 12, 18, 40)
	for i := range 5 + g.Intn(5) {
		p := api.Proc{Holds: g.pick(0, 1, 2, 6, 7), Regs: most, Params: 1}
		takes := aNumber
		switch {
		case i == 0:
			p.Params, p.Holds = 0, 0
		case i%3 == 2:
			takes = aTaker
		case i%3 == 0:
			p.Params, takes = 2, aPair
		}
		g.c.Procs, g.takes = append(g.c.Procs, p), append(g.takes, takes)
	}
	for g.now = range g.c.Procs {
		many := 1 + g.Intn(5)
		if g.now == 0 {
			many += 3
		}
		g.proc().Blocks = make([]api.Block, many)
		for at := range many {
			g.proc().Blocks[at] = api.Block{Ins: g.instructions(at), End: g.end(at, many)}
			if g.one(3) || g.now == 0 && at > 0 {
				g.goBack(at)
			}
		}
	}
	return g.c
}

// goBack has a block end with a test whether there is input left, and if so with a call of the winders, which may be a continuation. So it is gone back to a few times.
func (g *grower) goBack(at int) {
	p := g.proc()
	b := &p.Blocks[at]
	read, is, to, n := g.reg(aValue), g.reg(aTruth), g.reg(aProc), g.reg(aNumber)
	b.Ins = append(b.Ins, do("read-u8", read), do("eof-object?", is, read))
	p.Blocks = append(p.Blocks, block(b.End), block(g.pick2(tail(to, n), calls(n, len(p.Blocks), to, n)), do("%winders", to)))
	b.End = ifs(is, len(p.Blocks)-2, len(p.Blocks)-1)
}

func (g *grower) pick2(a, b api.End) api.End {
	if g.one(2) {
		return a
	}
	return b
}

// sortOf is that of a register of the function; in one that takes a procedure they are dealt out from that on.
func (g *grower) sortOf(reg int) sort {
	if g.takes[g.now] == aTaker {
		reg++
	}
	return sort(reg) % sorts
}

// reg is a register of a sort, mostly.
func (g *grower) reg(s sort) int {
	for {
		if reg := g.Intn(g.proc().Regs); g.sortOf(reg) == s || g.one(600) {
			return reg
		}
	}
}

// instructions are those of a block; in the first one nearly all registers are filled.
func (g *grower) instructions(block int) []api.Ins {
	var l []api.Ins
	if block == 0 {
		for reg := g.proc().Params; reg < g.proc().Regs; reg++ {
			if !g.one(60) {
				i := g.first(g.sortOf(reg))
				i.To = reg
				l = append(l, i)
			}
		}
		switch {
		case g.now == 0:
			l = append(l, do("%wind!", g.reg(aValue), g.reg(aProc)))
		case g.takes[g.now] == aTaker && !g.one(4):
			l = append(l, do("%wind!", g.reg(aValue), 0))
		}
	}
	for range g.Intn(5) {
		l = append(l, g.effect()...)
		i := g.instruction(sort(g.Intn(int(sorts))))
		i.To = g.reg(i.sort)
		l = append(l, i.Ins)
	}
	return l
}

type sorted struct {
	api.Ins
	sort sort
}

// first reads no register that is not filled yet.
func (g *grower) first(s sort) api.Ins {
	switch s {
	case aNumber:
		return number(0, g.Intn(9)-1)
	case aTruth:
		return constant(0, []string{"#t", "#f"}[g.Intn(2)])
	case aValue:
		return constant(0, []string{"a", "()", "#\\b", "7"}[g.Intn(4)])
	}
	return g.closure(s)
}

// closure is of a function that takes what the sort says, and holds what stands in registers of the sorts in order.
func (g *grower) closure(s sort) api.Ins {
	takes := map[sort]sort{aProc: aNumber, aTaker: aTaker, aPair: aPair}[s]
	from := g.now + 1
	if g.isLast() {
		from = 1
	}
	of := from + g.Intn(len(g.c.Procs)-from)
	for g.takes[of] != takes && !g.one(300) {
		of = from + g.Intn(len(g.c.Procs)-from)
	}
	i := closure(0, of)
	for at := range g.c.Procs[of].Holds {
		i.Args = append(i.Args, g.reg(sort(at)%sorts))
	}
	return i
}

func (g *grower) instruction(s sort) sorted {
	if holds := g.proc().Holds; holds > 0 && g.one(3) {
		at := g.Intn(holds)
		return sorted{held(0, at), sort(at) % sorts}
	}
	if g.one(8) {
		return sorted{move(0, g.reg(s)), s}
	}
	switch s {
	case aNumber:
		op := []string{"+", "-", "*", "+", "-", "quotient"}[g.Intn(6)]
		return sorted{do(op, 0, g.reg(aNumber), g.reg(aNumber)), s}
	case aTruth:
		if g.one(2) {
			return sorted{do("procedure?", 0, g.reg(aValue)), s}
		}
		return sorted{do([]string{"<", "=", "eq?"}[g.Intn(3)], 0, g.reg(aNumber), g.reg(aNumber)), s}
	case aValue:
		op := []string{"cons", "void", "%unset", "read-u8", "%box", "eq?", "%winders"}[g.Intn(7)]
		var args []int
		for range otherArity(op) {
			args = append(args, g.reg(sort(g.Intn(int(sorts)))))
		}
		return sorted{do(op, 0, args...), s}
	case aProc:
		if g.one(2) {
			return sorted{do("%winders", 0), s}
		}
	}
	return sorted{g.closure(s), s}
}

// effect is what is done for its own sake, now and then.
func (g *grower) effect() []api.Ins {
	switch g.Intn(12) {
	case 0, 1, 2:
		n := g.reg(aNumber)
		return []api.Ins{number(n, 65+g.Intn(26)), do("write-u8", g.reg(aValue), n)}
	case 3:
		return []api.Ins{do("%wind!", g.reg(aValue), g.reg(aProc))}
	case 4:
		s := []sort{aTaker, aPair, aTaker, aPair, aTaker, aPair, aProc}[g.Intn(7)]
		at := g.Intn(3)
		i := g.closure(s)
		if holds := len(i.Args); holds > 0 {
			at = g.Intn(holds)
		}
		i.To = g.reg(s)
		return []api.Ins{i, tie(at, i.To, g.reg(sort(at)%sorts))}
	case 5:
		if g.one(40) {
			return []api.Ins{do("error", g.reg(aValue))}
		}
	}
	return nil
}

// end is that of one of so many blocks, the last of which leads to no other one. Few lead back.
func (g *grower) end(block, blocks int) api.End {
	next := min(block+1, blocks-1)
	if g.one(12) {
		next = g.Intn(blocks)
	}
	e := api.End{Kind: g.Intn(api.EndKinds)}
	switch {
	case block == blocks-1:
		e.Kind = g.pick(api.EndReturn, api.EndReturn, api.EndReturn, api.EndTail, api.EndTailCC)
		if g.isLast() {
			e.Kind = api.EndReturn
		}
	case g.isLast() && !g.one(10):
		e.Kind = g.pick(api.EndJump, api.EndIf, api.EndReturn)
	case g.now == 0:
		e.Kind = g.pick(api.EndCall, api.EndCallCC, e.Kind)
	}
	switch e.Kind {
	case api.EndJump:
		e.Next = next
	case api.EndIf:
		e.Reg, e.Next, e.Else = g.reg(aTruth), next, min(block+1+g.Intn(2), blocks-1)
	case api.EndReturn:
		e.Reg = g.reg(aNumber)
		if g.now == 0 && g.one(2) {
			e.Reg = g.reg(aValue)
		}
	case api.EndTailCC, api.EndCallCC:
		e.Reg = g.reg(aTaker)
	default:
		e.Reg, e.Args = g.reg(aProc), []int{g.reg(aNumber)}
		if g.one(3) {
			e.Reg, e.Args = g.reg(aPair), append(e.Args, g.reg(aProc))
		}
		if g.one(80) {
			e.Args = append(e.Args, e.Reg)
		}
	}
	if e.Kind == api.EndCall || e.Kind == api.EndCallCC {
		e.To, e.Next = g.reg(aNumber), next
	}
	return e
}

func TestGrown(t *testing.T) {
	for seed := range 8 {
		t.Run(strconv.Itoa(seed), func(t *testing.T) {
			t.Parallel()
			g := &grower{Rand: rand.New(rand.NewSource(int64(1500 + seed)))}
			came, wrote, again := map[api.Errno]int{}, 0, 0
			for range 700 {
				c := g.grown()
				steps := g.pick(100, 1000, 4000)
				input := "scrimshaw"[:g.Intn(8)]
				got, want := Run(c, input, steps), otherRun(c, input, steps)
				if Check(c) != api.OK || otherCheck(c) != api.OK || !isSame(got, want) {
					t.Fatalf("with %d steps: %s; want %s\n%s", steps, told(got), told(want), textOf(c))
				}
				g.wantFollows(t, c, input, got)
				came[got.Err]++
				if len(got.Output) > 5 {
					wrote++
				}
				if mostTold(c, input, steps) > 1 {
					again++
				}
			}
			if came[api.OK] < 100 || came[api.ErrRunSteps] < 20 || came[api.ErrRunType] < 10 || came[api.ErrRunProc] < 2 || came[api.ErrRunCount] < 2 || came[api.ErrRunUser] < 2 || wrote < 30 || again < 30 {
				t.Error(came, wrote, again)
			}
		})
	}
}

// wantFollows is P15.3 of a run.
func (g *grower) wantFollows(t *testing.T, c api.Code, input string, got api.Outcome) {
	t.Helper()
	if got.Err != api.ErrRunSteps {
		for _, more := range []int{0, 1, g.Intn(5000)} {
			if o := Run(c, input, got.Steps+more); !isSame(o, got) {
				t.Fatalf("with %d more steps: %s; want %s\n%s", more, told(o), told(got), textOf(c))
			}
		}
	}
	for range 3 {
		if got.Steps == 0 {
			break
		}
		n := g.Intn(got.Steps)
		if o := Run(c, input, n); !isSame(o, outcome(api.ErrRunSteps, "", o.Output, n)) || !strings.HasPrefix(got.Output, o.Output) {
			t.Fatalf("with %d steps: %s; want a beginning of %s\n%s", n, told(o), told(got), textOf(c))
		}
	}
	renamed := g.renamed(c)
	steps := got.Steps + 10
	if got.Err == api.ErrRunSteps {
		steps = got.Steps
	}
	if o := Run(renamed, input, steps); !isSame(o, got) {
		t.Fatalf("with other registers: %s; want %s\n%s", told(o), told(got), textOf(renamed))
	}
}

// renamed is a code with other registers for all that are no parameters.
func (g *grower) renamed(c api.Code) api.Code {
	out := copied(c)
	for at := range out.Procs {
		p := &out.Procs[at]
		old := p.Regs
		p.Regs = min(old+g.pick(0, 1, 7, 100, 2000), api.MaxRegs)
		to := make([]int, 0, old)
		for reg := range p.Params {
			to = append(to, reg)
		}
		for _, n := range g.Perm(p.Regs - p.Params)[:old-p.Params] {
			to = append(to, p.Params+n)
		}
		for b := range p.Blocks {
			rename(&p.Blocks[b], to)
		}
	}
	return out
}

func rename(b *api.Block, to []int) {
	for at := range b.Ins {
		i := &b.Ins[at]
		if i.Op != "tie" {
			i.To = to[i.To]
		}
		for a, reg := range i.Args {
			i.Args[a] = to[reg]
		}
	}
	e := &b.End
	if e.Kind != api.EndJump {
		e.Reg = to[e.Reg]
	}
	if e.Kind == api.EndCall || e.Kind == api.EndCallCC {
		e.To = to[e.To]
	}
	for a, reg := range e.Args {
		e.Args[a] = to[reg]
	}
}

// Codes that differ a little from such that may be.
func TestBent(t *testing.T) {
	for seed := range 4 {
		t.Run(strconv.Itoa(seed), func(t *testing.T) {
			t.Parallel()
			g := &grower{Rand: rand.New(rand.NewSource(int64(1550 + seed)))}
			came := map[api.Errno]int{}
			for range 150 {
				c := g.grown()
				for range 30 {
					bent := copied(c)
					g.bend(&bent)
					want := otherCheck(bent)
					if got := Check(bent); got != want {
						t.Fatalf("Check: %v, want %v: %+v", got, want, bent)
					}
					if o := Run(bent, "", 10); want != api.OK && !isSame(o, api.Outcome{Err: want}) {
						t.Fatalf("Run: %s, want %v: %+v", told(o), want, bent)
					}
					came[want]++
				}
			}
			if came[api.OK] < 300 || came[api.ErrCodeForm] < 1000 || came[api.ErrCodeMany] < 20 {
				t.Error(came)
			}
		})
	}
}

// bend changes one number, or one list, somewhere.
func (g *grower) bend(c *api.Code) {
	p := &c.Procs[g.Intn(len(c.Procs))]
	b := &p.Blocks[g.Intn(len(p.Blocks))]
	i := &api.Ins{}
	if len(b.Ins) > 0 {
		i = &b.Ins[g.Intn(len(b.Ins))]
	}
	e := &b.End
	l := []*int{&p.Params, &p.Holds, &p.Regs, &i.To, &i.Num, &i.Const.Kind, &i.Const.Int, &e.Kind, &e.Reg, &e.To, &e.Next, &e.Else, &i.To, &i.Num, &e.Kind, &e.Reg, &e.To, &e.Next, &e.Else}
	for _, args := range [][]int{i.Args, e.Args} {
		for at := range args {
			l = append(l, &args[at])
		}
	}
	switch n := g.Intn(20); {
	case n < 14:
		at := l[g.Intn(len(l))]
		*at = g.pick(*at+1, *at-1, 0, 1, 2, g.Intn(12), g.Intn(50), -1, 1000, 2001)
	case n < 15:
		i.Args = append(i.Args, g.Intn(12))
	case n < 16:
		e.Args = append(e.Args, g.Intn(12))
	case n < 17 && len(i.Args) > 0:
		i.Args = i.Args[1:]
	case n < 18:
		i.Op = []string{"const", "move", "held", "closure", "tie", "cons", "car", "void", "%callcc", "x"}[g.Intn(10)]
	case n < 19:
		p.Blocks = slices.Repeat(p.Blocks, g.pick(0, 2, 500))
	default:
		c.Procs = slices.Repeat(c.Procs, g.pick(0, 2, 100))
	}
}
