package expand

import (
	"scrimshaw/api"
	"scrimshaw/core"
)

// expr is the expression of a datum at a place.
func (x *expander) expr(d api.Datum, at *place) (api.Expr, api.Errno) {
	d, wrong := x.unfolded(d, at)
	if wrong != api.OK {
		return api.Expr{}, wrong
	}
	if wrong := x.begin(); wrong != api.OK {
		return api.Expr{}, wrong
	}
	switch d.Kind {
	case api.DatSymbol:
		return x.symbol(d, at)
	case api.DatBool, api.DatInt, api.DatChar, api.DatString, api.DatVector:
		return x.constant(d), api.OK
	case api.DatList:
		if len(d.List) > 0 {
			return x.list(d.List, at)
		}
	}
	return api.Expr{}, api.ErrExpandForm
}

// exprs are those of data, in order.
func (x *expander) exprs(l []api.Datum, at *place) ([]api.Expr, api.Errno) {
	var out []api.Expr
	for _, d := range l {
		e, wrong := x.expr(d, at)
		if wrong != api.OK {
			return nil, wrong
		}
		out = append(out, e)
	}
	return out, api.OK
}

// begin counts an expression of the program.
func (x *expander) begin() api.Errno {
	if !x.ofProgram {
		return api.OK
	}
	if x.begun == api.MaxCore {
		return api.ErrExpandMany
	}
	x.begun++
	return api.OK
}

func (x *expander) symbol(d api.Datum, at *place) (api.Expr, api.Errno) {
	if m := x.meaningOf(d, at); m.kind == primitive {
		return x.function(m.name), api.OK
	}
	name, wrong := x.variable(d, at)
	if wrong != api.OK {
		return api.Expr{}, wrong
	}
	return ref(name), api.OK
}

// variable is the new name of the one that a symbol means.
func (x *expander) variable(d api.Datum, at *place) (string, api.Errno) {
	switch m := x.meaningOf(d, at); m.kind {
	case variable:
		return m.name, api.OK
	case nothing:
		return "", api.ErrExpandFree
	}
	return "", api.ErrExpandUse
}

// function is a primitive that stands for a value.
func (x *expander) function(name string) api.Expr {
	var names []string
	var kids []api.Expr
	for range core.Arity(name) {
		parameter := x.fresh("p")
		names = append(names, parameter)
		kids = append(kids, ref(parameter))
	}
	return api.Expr{Kind: api.ExpLam, Names: names, Kids: []api.Expr{prim(name, kids...)}}
}

// list is the expression of one that has an item and is no macro's use.
func (x *expander) list(items []api.Datum, at *place) (api.Expr, api.Errno) {
	switch m := x.meaningOf(items[0], at); m.kind {
	case specialForm:
		return x.special(m.name, items[1:], at)
	case primitive:
		return x.primitive(m.name, items[1:], at)
	}
	return x.call(items, at)
}

func (x *expander) primitive(name string, others []api.Datum, at *place) (api.Expr, api.Errno) {
	if len(others) != core.Arity(name) {
		return api.Expr{}, api.ErrExpandCount
	}
	kids, wrong := x.exprs(others, at)
	if wrong != api.OK {
		return api.Expr{}, wrong
	}
	return prim(name, kids...), api.OK
}

func (x *expander) call(items []api.Datum, at *place) (api.Expr, api.Errno) {
	if len(items) > 1+api.MaxParams {
		return api.Expr{}, api.ErrExpandCount
	}
	kids, wrong := x.exprs(items, at)
	if wrong != api.OK {
		return api.Expr{}, wrong
	}
	called, others := kids[0], kids[1:]
	if called.Kind == api.ExpLam && len(called.Names) == len(others) {
		return api.Expr{Kind: api.ExpLet, Names: called.Names, Kids: append(others, called.Kids[0])}, api.OK
	}
	return api.Expr{Kind: api.ExpCall, Kids: kids}, api.OK
}

func quote(d api.Datum) api.Expr {
	return api.Expr{Kind: api.ExpQuote, Const: api.Datum{Kind: d.Kind, Int: d.Int, Text: d.Text}}
}

func ref(name string) api.Expr { return api.Expr{Kind: api.ExpRef, Name: name} }

func prim(name string, kids ...api.Expr) api.Expr {
	return api.Expr{Kind: api.ExpPrim, Name: name, Kids: kids}
}

// inOrder is one expression of a row with one at least.
func inOrder(kids []api.Expr) api.Expr {
	if len(kids) == 1 {
		return kids[0]
	}
	return api.Expr{Kind: api.ExpSeq, Kids: kids}
}

// bound is a body with names that are bound to kids; of no names it is the body alone.
func bound(kind int, names []string, kids []api.Expr, body api.Expr) api.Expr {
	if len(names) == 0 {
		return body
	}
	return api.Expr{Kind: kind, Names: names, Kids: append(kids, body)}
}
