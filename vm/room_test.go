package vm

import (
	"runtime"
	"scrimshaw/api"
	"scrimshaw/world"
	"slices"
	"testing"
)

// A run of as many steps as there may be has room, whatever they do.

// deeper is a function that calls itself at once, with as many values as it takes; it has all registers that there may be.
func deeper(params int) api.Code {
	args := make([]int, params)
	calls := calls(api.MaxRegs-1, 0, 0, args...)
	first := api.End{Kind: api.EndTail, Args: args}
	return code(proc(0, 0, 1, block(first, closure(0, 1))), proc(params, 0, api.MaxRegs, block(calls)))
}

// full is instructions that fill all registers but the first ones.
func full(from int) []api.Ins {
	var l []api.Ins
	for at := from; at < api.MaxRegs; at++ {
		l = append(l, number(at, at))
	}
	return l
}

func filling(regs ...int) []api.Ins {
	var l []api.Ins
	for _, reg := range regs {
		l = append(l, do("void", reg))
	}
	return l
}

func TestRoom(t *testing.T) {
	far := slices.Repeat([]int{api.MaxRegs - 1, api.MaxRegs - 2, 1000, 1500}, 100)
	for name, c := range map[string]api.Code{
		"frames, six values each": deeper(6),
		"frames, one value each":  deeper(1),
		"frames, far registers": code(
			proc(0, 0, 1, block(tail(0, 0), closure(0, 1))),
			proc(1, 0, api.MaxRegs, block(calls(0, 0, 0, 0), do("void", api.MaxRegs-1)))),
		"closures that hold much": code(
			proc(0, 0, api.MaxRegs, block(jump(1), full(0)...), block(jump(1), closure(5, 1, make([]int, api.MaxHolds)...))),
			proc(0, api.MaxHolds, 1, block(gives(0)))),
		"continuations of all registers": code(
			proc(0, 0, api.MaxRegs, block(jump(1), append(full(1), closure(0, 1))...), block(callCC(api.MaxRegs-1, 1, 0))),
			proc(1, 0, 1, block(gives(0)))),
		"one continuation, all registers": code(
			proc(0, 0, api.MaxRegs, block(callCC(1, 1, 0), append(full(1), closure(0, 1))...), block(tail(1, 1))),
			proc(1, 0, 1, block(gives(0)))),
		"far registers":      code(proc(0, 0, api.MaxRegs, block(jump(0), filling(far...)...))),
		"the first register": code(proc(0, 0, 1, block(jump(0), filling(make([]int, 1000)...)...))),
		"parameters": code(
			proc(0, 0, 1, block(tail(0, 0, 0, 0, 0, 0, 0), closure(0, 1))),
			proc(6, 0, 6, block(jump(0), filling(slices.Repeat([]int{5, 0, 3}, 300)...)...))),
		"ties": code(
			proc(0, 0, 1, block(jump(1), closure(0, 1, make([]int, api.MaxHolds)...)), block(jump(1), slices.Repeat([]api.Ins{tie(0, 0, 0), tie(999, 0, 0)}, 1000)...)),
			proc(0, api.MaxHolds, 1, block(gives(0)))),
		"pairs":    one(1, jump(0), do("cons", 0, 0, 0)),
		"vectors":  one(2, jump(0), number(0, 1000), do("make-vector", 1, 0, 0)),
		"a symbol": one(1, jump(0), constant(0, "abcdefghijklmnopqrstuvwxyz-abcdefghijklmnopqrstuvwxyz")),
	} {
		var was, is runtime.MemStats
		runtime.ReadMemStats(&was)
		got := Run(c, "", api.MaxSteps)
		runtime.ReadMemStats(&is)
		if !isSame(got, outcome(api.ErrRunSteps, "", "", api.MaxSteps)) {
			t.Errorf("%s: %s", name, told(got))
		}
		if room := is.TotalAlloc - was.TotalAlloc; room > 600<<20 {
			t.Errorf("%s: %d bytes", name, room)
		}
	}
}

// A loop of EndTails needs no frames, and keeps nothing: what is in use does not grow with the steps.
func TestALoopKeepsNothing(t *testing.T) {
	c := code(
		proc(0, 0, 2, block(tail(0, 0, 1), closure(0, 1), number(1, 0))),
		proc(2, 0, 5, block(jump(1), number(2, 1), do("+", 1, 1, 2)), block(tail(3, 3, 1), move(3, 0))))
	inUse := func(steps int) uint64 {
		m := machine{World: world.New(""), procs: c.Procs, procedures: map[int]*procedure{}, steps: steps}
		wrong := m.run()
		if wrong != api.ErrRunSteps || m.frames != nil {
			t.Error(wrong)
		}
		var is runtime.MemStats
		runtime.GC()
		runtime.ReadMemStats(&is)
		runtime.KeepAlive(m)
		return is.HeapAlloc
	}
	few, many := inUse(1000), inUse(api.MaxSteps)
	if many > few+(1<<20) {
		t.Errorf("%d bytes behind 1000 steps, %d behind %d", few, many, api.MaxSteps)
	}
}

func TestManyTurns(t *testing.T) {
	// Each is a call with a new continuation, which has no frames.
	c := code(
		proc(0, 0, 1, block(tailCC(0), closure(0, 1))),
		proc(1, 0, 2, block(tailCC(1), closure(1, 1))))
	wantOutcome(t, c, "", 30000, outcome(api.ErrRunSteps, "", "", 30000))
	// As deep as there are steps for, and back again.
	down := fact()
	down.Procs[0].Blocks[0].Ins[2] = number(1, 50000)
	down.Procs[1].Blocks[3].Ins[0] = do("+", 3, 3, 0)
	want := outcome(api.OK, "1250025000", "", 4+49999*9+5)
	if got := Run(down, "", api.MaxSteps); !isSame(got, want) {
		t.Error(told(got))
	}
}
