package model

import "scrimshaw/api"

// made is the value of a new procedure.
func (m *machine) made(p procedure) api.Val {
	v := m.Procedure()
	m.procedures[v.Int] = p
	return v
}

// call calls the first value with the others.
func (m *machine) call(values *row) api.Errno {
	called, given := values.value(0), values.count()-1
	p, is := m.procedures[called.Int]
	if called.Kind != api.ValThing || !is {
		return api.ErrRunProc
	}
	if given != p.wanted() {
		return api.ErrRunCount
	}
	if p.function == nil {
		m.next = p.next
		m.tell(values.last)
		return api.OK
	}
	m.now, m.where = &p.function.kids[0], &scope{out: p.where, first: values}
	return api.OK
}

// wanted is with how many values it may be called.
func (p procedure) wanted() int {
	if p.function == nil {
		return 1
	}
	return p.function.names
}

// primitive does what one makes of its arguments.
func (m *machine) primitive(prim string, args []api.Val) api.Errno {
	if prim == "%callcc" {
		var values *row
		return m.call(values.with(args[0]).with(m.made(procedure{next: m.next})))
	}
	v, wrong := m.Do(prim, args)
	m.tell(v)
	return wrong
}
