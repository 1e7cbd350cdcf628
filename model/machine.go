package model

import (
	"scrimshaw/api"
	"scrimshaw/world"
)

// machine evaluates an expression now, or, if there is none, hands a value on to what is next.
type machine struct {
	*world.World
	procedures map[int]procedure // by the numbers of their things
	steps      int               // how many there are
	taken      int
	now        *part
	where      *scope // what now's names mean
	value      api.Val
	next       *frame
}

// procedure is a function, and where it was evaluated; or, without one, a continuation: what was next.
type procedure struct {
	function *part
	where    *scope
	next     *frame
}

// frame is an expression of which a kid's value is awaited. It never changes: a continuation may come back to it.
type frame struct {
	of     *part
	at     int // which kid's
	where  *scope
	values *row // of the kids ahead of it
	next   *frame
}

func (m *machine) run() api.Errno {
	for m.now != nil || m.next != nil {
		wrong := api.OK
		if m.now != nil {
			wrong = m.begin()
		} else {
			wrong = m.goOn()
		}
		if wrong != api.OK {
			return wrong
		}
	}
	return api.OK
}

// begin takes a step.
func (m *machine) begin() api.Errno {
	if m.taken == m.steps {
		return api.ErrRunSteps
	}
	m.taken++
	switch m.now.kind {
	case api.ExpQuote:
		m.tell(m.now.constant)
		return api.OK
	case api.ExpRef:
		m.tell(m.where.value(m.now.variable))
		return api.OK
	case api.ExpLam:
		m.tell(m.made(procedure{function: m.now, where: m.where}))
		return api.OK
	case api.ExpRec, api.ExpFix:
		return m.turnTo(frame{of: m.now, where: &scope{out: m.where}, next: m.next})
	}
	return m.turnTo(frame{of: m.now, where: m.where, next: m.next})
}

func (m *machine) tell(v api.Val) { m.now, m.value = nil, v }

// turnTo begins the kid that a frame is at; if there is none left, the values are all there.
func (m *machine) turnTo(f frame) api.Errno {
	if f.at == len(f.of.kids) {
		m.next = f.next
		if f.of.kind == api.ExpCall {
			return m.call(f.values)
		}
		return m.primitive(f.of.prim, f.values.values())
	}
	m.now, m.where, m.next = &f.of.kids[f.at], f.where, f.next
	if f.isAtBody() {
		// Its value is the whole one's, so that nothing is to be done with it here.
		if f.of.kind == api.ExpLet {
			m.where = &scope{out: f.where, first: f.values}
		}
		return api.OK
	}
	kept := f
	m.next = &kept
	return api.OK
}

// isAtBody tells whether the value of the kid that the frame is at is that of the whole.
func (f frame) isAtBody() bool {
	switch f.of.kind {
	case api.ExpIf:
		return f.at > 0
	case api.ExpSeq, api.ExpLet, api.ExpRec, api.ExpFix:
		return f.at == len(f.of.kids)-1
	}
	return false
}

// goOn hands the value on to the frame that is next.
func (m *machine) goOn() api.Errno {
	f := *m.next
	switch f.of.kind {
	case api.ExpSet:
		f.where.change(f.of.variable, m.value)
		m.next = f.next
		m.tell(api.Val{Kind: api.ValVoid})
		return api.OK
	case api.ExpIf:
		if m.value == (api.Val{Kind: api.ValBool}) {
			f.at++
		}
	case api.ExpRec, api.ExpFix:
		f.where.change(place{at: f.at}, m.value)
	case api.ExpLet, api.ExpCall, api.ExpPrim:
		f.values = f.values.with(m.value)
	}
	f.at++
	return m.turnTo(f)
}
