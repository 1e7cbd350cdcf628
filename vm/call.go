package vm

import "scrimshaw/api"

// procedure is a closure: its function, and what it holds; or, without a function, a continuation: the frames that there were. A closure keeps the registers that it was made of, so that one that holds much takes no more room than another.
type procedure struct {
	function *api.Proc
	from     registers
	which    []int           // of these registers it holds
	tied     map[int]api.Val // what it holds since in some places
	frames   *frame
}

// held is what a closure holds at one of its places.
func (p *procedure) held(at int) api.Val {
	if v, is := p.tied[at]; is {
		return v
	}
	return p.from.value(p.which[at])
}

// wanted is with how many values it may be called.
func (p *procedure) wanted() int {
	if p.function == nil {
		return 1
	}
	return p.function.Params
}

// frame is a call that is come back from: the closure that runs then, its registers as they were, the one that gets the value, the next block; and the frame that is the last one then. It never changes: there may be several ways back to it.
type frame struct {
	closure   *procedure
	registers registers
	to, next  int
	out       *frame
}

// made is the value of a new procedure.
func (m *machine) made(p procedure) api.Val {
	v := m.Procedure()
	m.procedures[v.Int] = &p
	return v
}

// procedureOf is the one that a value tells of, if it does.
func (m *machine) procedureOf(v api.Val) (*procedure, bool) {
	p, is := m.procedures[v.Int]
	return p, is && v.Kind == api.ValThing
}

func (m *machine) call(v api.Val, args []api.Val) api.Errno {
	p, is := m.procedureOf(v)
	switch {
	case !is:
		return api.ErrRunProc
	case len(args) != p.wanted():
		return api.ErrRunCount
	case p.function == nil:
		m.frames = p.frames
		m.tell(args[0])
	default:
		m.running, m.registers, m.next = p, begun(args), 0
	}
	return api.OK
}

// tell hands a value on to the last frame; without any the run ends with it.
func (m *machine) tell(v api.Val) {
	f := m.frames
	if f == nil {
		m.value, m.hasEnded = v, true
		return
	}
	m.frames = f.out
	m.running, m.registers, m.next = f.closure, f.registers.with(f.to, v), f.next
}

// tie has a closure hold another value at a place.
func (m *machine) tie(closure api.Val, at int, v api.Val) api.Errno {
	p, is := m.procedureOf(closure)
	if !is || p.function == nil || at >= p.function.Holds {
		return api.ErrRunType
	}
	if p.tied == nil {
		p.tied = map[int]api.Val{}
	}
	p.tied[at] = v
	return api.OK
}
