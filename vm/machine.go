package vm

import (
	"scrimshaw/api"
	"scrimshaw/heap"
	"scrimshaw/world"
)

// machine runs the blocks of one function now.
type machine struct {
	*world.World
	procs      []api.Proc
	procedures map[int]*procedure // by the numbers of their things
	steps      int                // how many there are
	taken      int
	running    *procedure // the closure whose function it is
	registers  registers
	next       int // the block
	frames     *frame
	given      [api.MaxParams]api.Val
	hasEnded   bool
	value      api.Val
}

func (m *machine) run() api.Errno {
	wrong := m.call(m.made(procedure{function: &m.procs[0]}), nil)
	for wrong == api.OK && !m.hasEnded {
		wrong = m.goThrough(m.running.function.Blocks[m.next])
	}
	return wrong
}

func (m *machine) goThrough(b api.Block) api.Errno {
	for _, i := range b.Ins {
		if wrong := m.step(); wrong != api.OK {
			return wrong
		}
		if wrong := m.do(i); wrong != api.OK {
			return wrong
		}
	}
	if wrong := m.step(); wrong != api.OK {
		return wrong
	}
	return m.end(b.End)
}

func (m *machine) step() api.Errno {
	if m.taken == m.steps {
		return api.ErrRunSteps
	}
	m.taken++
	return api.OK
}

func (m *machine) do(i api.Ins) api.Errno {
	if i.Op == "tie" {
		return m.tie(m.registers.value(i.Args[0]), i.Num, m.registers.value(i.Args[1]))
	}
	v, wrong := m.result(i)
	if wrong == api.OK {
		m.registers = m.registers.with(i.To, v)
	}
	return wrong
}

// result is what an instruction fills its register with.
func (m *machine) result(i api.Ins) (api.Val, api.Errno) {
	switch i.Op {
	case "const":
		v, _ := heap.Const(i.Const)
		return v, api.OK
	case "move":
		return m.registers.value(i.Args[0]), api.OK
	case "held":
		return m.running.held(i.Num), api.OK
	case "closure":
		return m.made(procedure{function: &m.procs[i.Num], from: m.registers, which: i.Args}), api.OK
	}
	return m.Do(i.Op, m.values(i.Args))
}

// values are those of registers. They stand where the ones that were asked for ahead of them stood.
func (m *machine) values(of []int) []api.Val {
	l := m.given[:0]
	for _, at := range of {
		l = append(l, m.registers.value(at))
	}
	return l
}

func (m *machine) end(e api.End) api.Errno {
	switch e.Kind {
	case api.EndJump:
		m.next = e.Next
	case api.EndIf:
		m.next = e.Next
		if m.registers.value(e.Reg) == (api.Val{Kind: api.ValBool}) {
			m.next = e.Else
		}
	case api.EndReturn:
		m.tell(m.registers.value(e.Reg))
	default:
		return m.endInCall(e)
	}
	return api.OK
}

func (m *machine) endInCall(e api.End) api.Errno {
	called, args := m.registers.value(e.Reg), m.values(e.Args)
	if e.Kind == api.EndCall || e.Kind == api.EndCallCC {
		m.frames = &frame{m.running, m.registers, e.To, e.Next, m.frames}
	}
	if e.Kind == api.EndTailCC || e.Kind == api.EndCallCC {
		args = append(args, m.made(procedure{frames: m.frames}))
	}
	return m.call(called, args)
}
