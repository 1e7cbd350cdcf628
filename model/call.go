package model

import "scrimshaw/api"

// made is the value of a new procedure.
func (m *machine) made(p procedure) api.Val {
	v, _ := m.heap.Make(api.ThingProc, nil)
	m.procedures[v.Int] = p
	return v
}

// call calls the first value with the others.
func (m *machine) call(values *row) api.Errno {
	called, given := values.value(0), values.count()-1
	p, is := m.procedures[called.Int]
	if called.Kind != api.ValThing || !is {
		return api.ErrRunProc
	}
	if given != p.wanted() {
		return api.ErrRunCount
	}
	if p.function == nil {
		m.next = p.next
		m.tell(values.last)
		return api.OK
	}
	m.now, m.where = &p.function.kids[0], &scope{out: p.where, first: values}
	return api.OK
}

// wanted is with how many values it may be called.
func (p procedure) wanted() int {
	if p.function == nil {
		return 1
	}
	return p.function.names
}

// primitive does what one makes of its arguments.
func (m *machine) primitive(prim string, args []api.Val) api.Errno {
	switch prim {
	case "read-u8":
		m.tell(m.read())
	case "write-u8":
		return m.write(args[0])
	case "error":
		return api.ErrRunUser
	case "%winders":
		m.tell(m.winders)
	case "%wind!":
		m.winders = args[0]
		m.tell(void())
	case "%callcc":
		var values *row
		return m.call(values.with(args[0]).with(m.made(procedure{next: m.next})))
	default:
		v, wrong := m.heap.Do(prim, args)
		m.tell(v)
		return wrong
	}
	return api.OK
}

// read is the next byte of the input.
func (m *machine) read() api.Val {
	if m.input == "" {
		return api.Val{Kind: api.ValEof}
	}
	b := m.input[0]
	m.input = m.input[1:]
	return api.Val{Kind: api.ValInt, Int: int(b)}
}

func (m *machine) write(v api.Val) api.Errno {
	if v.Kind != api.ValInt {
		return api.ErrRunType
	}
	if v.Int < 0 || v.Int > maxByte {
		return api.ErrRunRange
	}
	m.output = append(m.output, byte(v.Int))
	m.tell(void())
	return api.OK
}

func void() api.Val { return api.Val{Kind: api.ValVoid} }
