package vm

import (
	"reflect"
	"scrimshaw/api"
	"scrimshaw/data"
	"scrimshaw/heap"
	"slices"
	"strings"
)

// The other way of the tests. Check takes out of instructions and ends what they may have, and nothing may be left; Run has all registers of all frames in memory of their own, and an error is a panic.

func otherCheck(c api.Code) api.Errno {
	parts, most := 0, 0
	for _, p := range c.Procs {
		parts += len(p.Blocks)
		most = max(most, p.Regs)
		for _, b := range p.Blocks {
			parts += len(b.Ins)
		}
	}
	switch {
	case len(c.Procs) > 300, parts > 4096, most > 2000:
		return api.ErrCodeMany
	case len(c.Procs) == 0, c.Procs[0].Params != 0, c.Procs[0].Holds != 0:
		return api.ErrCodeForm
	}
	for _, p := range c.Procs {
		if p.Params < 0 || p.Params > 6 || p.Holds < 0 || p.Holds > 1000 || p.Regs < p.Params || len(p.Blocks) < 1 {
			return api.ErrCodeForm
		}
	}
	for _, p := range c.Procs {
		for _, b := range p.Blocks {
			if !otherMayEnd(p, b.End) || slices.ContainsFunc(b.Ins, func(i api.Ins) bool { return !otherMayDo(c, p, i) }) {
				return api.ErrCodeForm
			}
		}
	}
	return api.OK
}

// otherArity is how many arguments the primitives have, in the words of chapter 6.
func otherArity(op string) int {
	for n, l := range []string{
		"read-u8 error void %winders %unset",
		"null? pair? vector? string? symbol? char? integer? boolean? procedure? eof-object? car cdr vector-length string-length char->integer integer->char write-u8 %box %unbox %wind!",
		"+ - * quotient remainder < = eq? cons set-car! set-cdr! make-vector vector-ref make-string string-ref %set-box!",
		"vector-set! string-set!",
	} {
		if slices.Contains(strings.Fields(l), op) {
			return n
		}
	}
	return -1
}

func otherMayDo(c api.Code, p api.Proc, i api.Ins) bool {
	right, args := true, otherArity(i.Op)
	registers := i.Args
	if i.Op != "tie" {
		registers = append(slices.Clone(registers), i.To)
		i.To = 0
	}
	switch i.Op {
	case "const":
		d := i.Const
		fits := d.Kind == api.DatBool || d.Kind == api.DatInt || d.Kind == api.DatChar || d.Kind == api.DatSymbol || d.Kind == api.DatList
		right, args, i.Const = fits && len(d.List) == 0 && data.Check(d) == api.OK, 0, api.Datum{}
	case "move":
		args = 1
	case "held":
		right, args, i.Num = i.Num >= 0 && i.Num <= p.Holds-1, 0, 0
	case "closure":
		right = i.Num >= 1 && i.Num <= len(c.Procs)-1
		if right {
			args, i.Num = c.Procs[i.Num].Holds, 0
		}
	case "tie":
		args, i.Num = 2, min(i.Num, 0)
	}
	for _, r := range registers {
		right = right && r >= 0 && r <= p.Regs-1
	}
	right = right && len(i.Args) == args
	i.Op, i.Args = "", nil
	if len(i.Const.List) == 0 {
		i.Const.List = nil
	}
	return right && reflect.DeepEqual(i, api.Ins{})
}

func otherMayEnd(p api.Proc, e api.End) bool {
	right := true
	register := func(r *int) {
		right = right && *r >= 0 && *r <= p.Regs-1
		*r = 0
	}
	target := func(b *int) {
		right = right && *b >= 0 && *b <= len(p.Blocks)-1
		*b = 0
	}
	if e.Kind == api.EndTail || e.Kind == api.EndCall {
		right = len(e.Args) <= 6
		for _, a := range e.Args {
			register(&a)
		}
		e.Args = nil
	}
	switch e.Kind {
	case api.EndJump:
		target(&e.Next)
	case api.EndIf:
		register(&e.Reg)
		target(&e.Next)
		target(&e.Else)
	case api.EndReturn, api.EndTail, api.EndTailCC:
		register(&e.Reg)
	case api.EndCall, api.EndCallCC:
		register(&e.Reg)
		register(&e.To)
		target(&e.Next)
	default:
		return false
	}
	return right && len(e.Args) == 0 && e.Reg|e.To|e.Next|e.Else == 0
}

type (
	otherFrame struct {
		of, to, next int
		made         int // in which step
		self         api.Val
		registers    []api.Val
	}
	otherMachine struct {
		procs         []api.Proc
		h             *heap.Heap
		functions     map[api.Val]int
		holds         map[api.Val][]api.Val
		back          map[api.Val][]otherFrame
		input, output string
		winders       api.Val
		taken, steps  int
		now           otherFrame
		frames        []otherFrame
		end           *api.Val
		told          map[int]int // how often a value was told to the frame that was made in a step
	}
)

func newOther(c api.Code, input string, steps int) *otherMachine {
	return &otherMachine{procs: c.Procs, h: heap.New(), functions: map[api.Val]int{}, holds: map[api.Val][]api.Val{}, back: map[api.Val][]otherFrame{}, input: input, winders: api.Val{Kind: api.ValNull}, steps: steps, told: map[int]int{}}
}

func otherRun(c api.Code, input string, steps int) api.Outcome {
	return newOther(c, input, steps).run()
}

// mostTold is how often a value is told to one and the same frame in a run, at most.
func mostTold(c api.Code, input string, steps int) int {
	m := newOther(c, input, steps)
	m.run()
	most := 0
	for _, times := range m.told {
		most = max(most, times)
	}
	return most
}

func (m *otherMachine) run() (out api.Outcome) {
	defer func() {
		if p := recover(); p != nil {
			out = api.Outcome{Err: p.(api.Errno), Output: m.output, Steps: m.taken}
		}
	}()
	m.call(m.closure(0, nil), nil)
	for m.end == nil {
		b := m.procs[m.now.of].Blocks[m.now.next]
		for _, i := range b.Ins {
			m.step()
			m.do(i)
		}
		m.step()
		m.leave(b.End)
	}
	out = api.Outcome{Output: m.output, Steps: m.taken}
	out.Shown, out.Whole = m.h.Tell(*m.end)
	return out
}

func (m *otherMachine) step() {
	if m.taken >= m.steps {
		panic(api.ErrRunSteps)
	}
	m.taken++
}

func (m *otherMachine) closure(of int, holds []api.Val) api.Val {
	v, _ := m.h.Make(api.ThingProc, nil)
	m.functions[v], m.holds[v] = of, holds
	return v
}

func (m *otherMachine) values(l []int) []api.Val {
	out := make([]api.Val, 0)
	for _, r := range l {
		out = append(out, m.now.registers[r])
	}
	return out
}

func (m *otherMachine) do(i api.Ins) {
	args := m.values(i.Args)
	var v api.Val
	switch i.Op {
	case "const":
		v, _ = heap.Const(i.Const)
	case "move":
		v = args[0]
	case "held":
		v = m.holds[m.now.self][i.Num]
	case "closure":
		v = m.closure(i.Num, args)
	case "tie":
		l := m.holds[args[0]]
		if i.Num >= len(l) {
			panic(api.ErrRunType)
		}
		l[i.Num] = args[1]
		return
	case "read-u8":
		v = api.Val{Kind: api.ValEof}
		if m.input != "" {
			v = api.Val{Kind: api.ValInt, Int: int(m.input[0])}
			m.input = m.input[1:]
		}
	case "write-u8":
		if args[0].Kind != api.ValInt {
			panic(api.ErrRunType)
		}
		if args[0].Int != args[0].Int&255 {
			panic(api.ErrRunRange)
		}
		m.output += string([]byte{byte(args[0].Int)})
		v = api.Val{Kind: api.ValVoid}
	case "error":
		panic(api.ErrRunUser)
	case "%winders":
		v = m.winders
	case "%wind!":
		m.winders, v = args[0], api.Val{Kind: api.ValVoid}
	default:
		done, wrong := m.h.Do(i.Op, args)
		if wrong != api.OK {
			panic(wrong)
		}
		v = done
	}
	m.now.registers[i.To] = v
}

func (m *otherMachine) leave(e api.End) {
	switch e.Kind {
	case api.EndJump:
		m.now.next = e.Next
		return
	case api.EndIf:
		if v := m.now.registers[e.Reg]; v.Kind == api.ValBool && v.Int == 0 {
			m.now.next = e.Else
		} else {
			m.now.next = e.Next
		}
		return
	case api.EndReturn:
		m.tell(m.now.registers[e.Reg])
		return
	}
	called, args := m.now.registers[e.Reg], m.values(e.Args)
	if e.Kind == api.EndCall || e.Kind == api.EndCallCC {
		f := m.now
		f.to, f.next, f.made, f.registers = e.To, e.Next, m.taken, slices.Clone(f.registers)
		m.frames = append(m.frames, f)
	}
	if e.Kind == api.EndTailCC || e.Kind == api.EndCallCC {
		v, _ := m.h.Make(api.ThingProc, nil)
		m.back[v] = append([]otherFrame{}, m.frames...)
		args = append(args, v)
	}
	m.call(called, args)
}

func (m *otherMachine) call(v api.Val, args []api.Val) {
	of, is := m.functions[v]
	if back := m.back[v]; back != nil {
		if len(args) != 1 {
			panic(api.ErrRunCount)
		}
		m.frames = slices.Clone(back)
		m.tell(args[0])
		return
	}
	if !is {
		panic(api.ErrRunProc)
	}
	p := m.procs[of]
	if len(args) != p.Params {
		panic(api.ErrRunCount)
	}
	m.now = otherFrame{of: of, self: v}
	for at := range p.Regs {
		if at < len(args) {
			m.now.registers = append(m.now.registers, args[at])
		} else {
			m.now.registers = append(m.now.registers, api.Val{Kind: api.ValUnset})
		}
	}
}

func (m *otherMachine) tell(v api.Val) {
	if len(m.frames) == 0 {
		m.end = &v
		return
	}
	last := len(m.frames) - 1
	m.now = m.frames[last]
	m.told[m.now.made]++
	m.frames = m.frames[:last]
	m.now.registers = slices.Clone(m.now.registers)
	m.now.registers[m.now.to] = v
}
