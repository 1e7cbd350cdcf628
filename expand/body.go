package expand

import (
	"scrimshaw/api"
	"slices"
)

// row is data that are still to be gone over, the next one last.
type row struct{ left []api.Datum }

// lay puts data in the place of what was taken.
func (r *row) lay(l ...api.Datum) {
	for _, d := range slices.Backward(l) {
		r.left = append(r.left, d)
	}
}

func (r *row) isEmpty() bool { return len(r.left) == 0 }

func (r *row) take() api.Datum {
	last := len(r.left) - 1
	d := r.left[last]
	r.left = r.left[:last]
	return d
}

// takeAll are the data, in order.
func (r *row) takeAll() []api.Datum {
	out := r.left
	r.left = nil
	slices.Reverse(out)
	return out
}

// definition is that of a variable or of a macro.
type definition struct {
	name   string      // the variable's new one; empty of a macro
	parts  []api.Datum // what the variable is bound to: a datum alone,
	lambda bool        // or what stands behind the word of a lambda
	plain  bool        // whether it was no definition, and the variable has no symbol
	from   int         // the place of the datum of which it came
}

// body is the expression of data that are a body at a place.
func (x *expander) body(l []api.Datum, outer *place) (api.Expr, api.Errno) {
	at := within(outer)
	r := row{}
	r.lay(l...)
	defined, wrong := x.define(&r, at)
	if wrong != api.OK {
		return api.Expr{}, wrong
	}
	if r.isEmpty() {
		return api.Expr{}, api.ErrExpandForm
	}
	names, kids, wrong := x.values(defined, at)
	if wrong != api.OK {
		return api.Expr{}, wrong
	}
	last, wrong := x.sequence(r.takeAll(), at)
	if wrong != api.OK {
		return api.Expr{}, wrong
	}
	return bound(api.ExpRec, names, kids, last), api.OK
}

// define goes over data as long as they are definitions, and binds what these define. What is none is the next one then.
func (x *expander) define(r *row, at *place) ([]definition, api.Errno) {
	var out []definition
	for !r.isEmpty() {
		d, wrong := x.unfolded(r.take(), at)
		if wrong != api.OK {
			return nil, wrong
		}
		if x.meaningOfFirst(d, at) == basic("begin") {
			r.lay(d.List[1:]...)
			continue
		}
		one, is, wrong := x.definition(d, at)
		if wrong != api.OK {
			return nil, wrong
		}
		if !is {
			r.lay(d)
			break
		}
		out = append(out, one)
	}
	return out, api.OK
}

// definition is what a datum defines, and whether it defines anything.
func (x *expander) definition(d api.Datum, at *place) (definition, bool, api.Errno) {
	switch x.meaningOfFirst(d, at) {
	case basic("define"):
		return x.defineVariable(d.List[1:], at)
	case basic("define-syntax"):
		return x.defineMacro(d.List[1:], at)
	}
	return definition{}, false, api.OK
}

func (x *expander) defineVariable(parts []api.Datum, at *place) (definition, bool, api.Errno) {
	s, one, is := defined(parts)
	if !is {
		return definition{}, false, api.OK
	}
	if at.binds(s) {
		return definition{}, false, api.ErrExpandTwice
	}
	one.name, one.from = x.bind(s, at), x.from
	return one, true, api.OK
}

// defined is the symbol that is defined by what stands behind the word define, and its definition; false of another shape.
func defined(parts []api.Datum) (string, definition, bool) {
	if len(parts) == 2 && parts[0].Kind == api.DatSymbol {
		return parts[0].Text, definition{parts: parts[1:]}, true
	}
	if len(parts) == 0 || parts[0].Kind != api.DatList || len(parts[0].List) == 0 || parts[0].List[0].Kind != api.DatSymbol {
		return "", definition{}, false
	}
	head := parts[0].List
	others := api.Datum{Kind: api.DatList, List: head[1:]}
	return head[0].Text, definition{parts: append([]api.Datum{others}, parts[1:]...), lambda: true}, true
}

func (x *expander) defineMacro(parts []api.Datum, at *place) (definition, bool, api.Errno) {
	if len(parts) != 2 || parts[0].Kind != api.DatSymbol {
		return definition{}, false, api.OK
	}
	s := parts[0].Text
	if at.binds(s) {
		return definition{}, false, api.ErrExpandTwice
	}
	m, wrong := x.macro(parts[1], at)
	if wrong != api.OK {
		return definition{}, false, wrong
	}
	at.means[s] = m
	return definition{}, true, api.OK
}

// values are the variables that are defined, and what they are bound to.
func (x *expander) values(l []definition, at *place) ([]string, []api.Expr, api.Errno) {
	var names []string
	var kids []api.Expr
	for _, one := range l {
		if one.name == "" {
			continue
		}
		x.from = one.from
		kid, wrong := x.value(one, at)
		if wrong != api.OK {
			return nil, nil, wrong
		}
		names = append(names, one.name)
		kids = append(kids, kid)
	}
	return names, kids, api.OK
}

func (x *expander) value(one definition, at *place) (api.Expr, api.Errno) {
	if !one.lambda {
		return x.expr(one.parts[0], at)
	}
	if wrong := x.begin(); wrong != api.OK {
		return api.Expr{}, wrong
	}
	return x.lambda(one.parts, at)
}
