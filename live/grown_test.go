package live

import (
	"math"
	"math/rand"
	"reflect"
	"scrimshaw/api"
	"slices"
	"strconv"
	"testing"
)

// What the chapter promises, held against the other way on functions that are grown: mostly such as may be, but of nothing that stands there it is sure.

type grower struct{ *rand.Rand }

func (g grower) one(in int) bool { return g.Intn(in) == 0 }

func (g grower) pick(l ...int) int { return l[g.Intn(len(l))] }

func (g grower) reg(regs int) int {
	if g.one(60) {
		return g.pick(-1, -2, regs, 2000, math.MaxInt, math.MinInt)
	}
	return g.Intn(regs)
}

func (g grower) regs(regs, most int) []int {
	var out []int
	for range g.Intn(most + 1) {
		out = append(out, g.reg(regs))
	}
	return out
}

func (g grower) target(blocks int) int {
	if g.one(20) {
		return g.pick(-1, blocks, blocks+1, math.MaxInt, math.MinInt)
	}
	return g.Intn(blocks)
}

func (g grower) end(blocks, regs int) api.End {
	e := api.End{Kind: g.Intn(api.EndKinds), Reg: g.reg(regs), Args: g.regs(regs, 3), To: g.reg(regs), Next: g.target(blocks), Else: g.target(blocks)}
	if g.one(30) {
		e.Kind = g.pick(-1, api.EndKinds, 50, math.MinInt, math.MaxInt)
	}
	if g.one(3) {
		e.Kind = api.EndIf
	}
	return e
}

func (g grower) grown() api.Proc {
	blocks, regs := 1+g.Intn(9), 2+g.Intn(9)
	p := api.Proc{Params: g.pick(0, 1, 6, -1), Holds: g.pick(0, 3, -1), Regs: g.pick(regs, regs, 0, -1, 3000)}
	most := g.pick(0, 1, 3, 6)
	for range blocks {
		b := api.Block{End: g.end(blocks, regs)}
		for range g.Intn(most + 1) {
			op := []string{"const", "move", "+", "closure", "tie", "x"}[g.Intn(6)]
			b.Ins = append(b.Ins, api.Ins{Op: op, To: g.reg(regs), Args: g.regs(regs, 2), Num: g.Intn(3)})
		}
		p.Blocks = append(p.Blocks, b)
	}
	return p
}

func TestGrown(t *testing.T) {
	for seed := range 8 {
		t.Run(strconv.Itoa(seed), func(t *testing.T) {
			t.Parallel()
			g := grower{rand.New(rand.NewSource(int64(1700 + seed)))}
			live, dead, across := 0, 0, 0
			for range 800 {
				p := g.grown()
				wantAll(t, p)
				g.wantNumbersApart(t, p)
				wantRead(t, p)
				if t.Failed() {
					return
				}
				for block, l := range In(p) {
					live += len(l)
					dead += len(otherRegisters(p)) - len(l)
					across += len(Across(p, block))
				}
			}
			if live < 5000 || dead < 5000 || across < 500 {
				t.Error(live, dead, across)
			}
		})
	}
}

// wantNumbersApart is that what a function says of itself, and what instructions have besides registers, are of no moment; nor is a copy told apart.
func (g grower) wantNumbersApart(t *testing.T, p api.Proc) {
	t.Helper()
	other := copied(p)
	other.Params, other.Holds, other.Regs = g.Intn(9)-2, g.Intn(2000)-2, g.Intn(3000)-2
	for b := range other.Blocks {
		for i := range other.Blocks[b].Ins {
			ins := &other.Blocks[b].Ins[i]
			ins.Num, ins.Const = g.Intn(9)-2, api.Datum{Kind: g.Intn(9), Int: 3, Text: "a"}
		}
	}
	if got, want := answers(other), answers(p); !reflect.DeepEqual(got, want) {
		t.Errorf("%v, want %v\n%s", got, want, textOf(p))
	}
}

// answers are all that is told of a function.
func answers(p api.Proc) [][][]int {
	out := [][][]int{In(p)}
	for block := range p.Blocks {
		out = append(out, Behind(p, block), lists(Across(p, block)))
	}
	return out
}

// wantRead is that a register that is read nowhere is live nowhere.
func wantRead(t *testing.T, p api.Proc) {
	t.Helper()
	isRead := func(reg int) bool {
		for n, b := range p.Blocks {
			for at := range len(b.Ins) + 1 {
				if otherReads(p, place{n, at}, reg) {
					return true
				}
			}
		}
		return false
	}
	for _, reg := range slices.Concat(slices.Concat(answers(p)...)...) {
		if !isRead(reg) {
			t.Errorf("%d is read nowhere\n%s", reg, textOf(p))
		}
	}
}
