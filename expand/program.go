package expand

import (
	"scrimshaw/api"
	"scrimshaw/core"
	"slices"
)

// program is the expression of a program's data; where it ends with an error, from is the place that is told with it.
func (x *expander) program(l []api.Datum) (api.Expr, api.Errno) {
	ahead := within(nil)
	own := within(ahead)
	given, wrong := x.gather(Prelude(), ahead)
	if wrong != api.OK {
		return api.Expr{}, wrong
	}
	x.ofProgram = true
	gathered, wrong := x.gather(l, own)
	if wrong != api.OK {
		return api.Expr{}, wrong
	}
	gathered, last := x.parted(gathered)
	x.ofProgram = false
	known, values, wrong := x.values(given, ahead)
	if wrong != api.OK {
		return api.Expr{}, wrong
	}
	x.ofProgram = true
	names, kids, wrong := x.values(gathered, own)
	if wrong != api.OK {
		return api.Expr{}, wrong
	}
	result, wrong := x.result(last, own)
	if wrong != api.OK {
		return api.Expr{}, wrong
	}
	x.from = len(l)
	return x.whole(supply{names: known, values: values}, names, kids, result)
}

// parted takes the last datum that a program came to away from the others, if it is no definition; else there is none of it.
func (x *expander) parted(gathered []definition) ([]definition, []definition) {
	end := len(gathered)
	if end == 0 || !gathered[end-1].plain {
		return gathered, nil
	}
	// It binds nothing, and nothing was bound behind it: its number is free for the next variable.
	x.named--
	return gathered[:end-1], gathered[end-1:]
}

// result is the expression of a program's last datum, if that is no definition.
func (x *expander) result(last []definition, at *place) (api.Expr, api.Errno) {
	if len(last) == 0 {
		return prim("void"), api.OK
	}
	x.from = last[0].from
	return x.value(last[0], at)
}

// gather goes over all data; what is no definition becomes one, too.
func (x *expander) gather(l []api.Datum, at *place) ([]definition, api.Errno) {
	var out []definition
	for i, d := range l {
		x.from = i
		r := row{}
		r.lay(d)
		for !r.isEmpty() {
			defined, wrong := x.define(&r, at)
			if wrong != api.OK {
				return nil, wrong
			}
			out = append(out, defined...)
			if !r.isEmpty() {
				out = append(out, definition{name: x.fresh("e"), parts: []api.Datum{r.take()}, plain: true, from: i})
			}
		}
	}
	return out, api.OK
}

// supply is the prelude's variables, and what they are bound to.
type supply struct {
	names  []string
	values []api.Expr
}

// whole is the expression of the program's parts, with what they need.
func (x *expander) whole(s supply, names []string, kids []api.Expr, result api.Expr) (api.Expr, api.Errno) {
	needed, values := s.needed(append(slices.Clone(kids), result))
	e := bound(api.ExpRec, append(needed, names...), append(values, kids...), result)
	e, wrong := x.headed(e)
	if wrong != api.OK || core.Check(e) != api.OK {
		return api.Expr{}, api.ErrExpandMany
	}
	return e, api.OK
}

// needed are those of the prelude's variables that stand in expressions, or in what such a one is bound to; and what they are bound to.
func (s supply) needed(l []api.Expr) ([]string, []api.Expr) {
	wanted := make([]bool, len(s.names))
	for len(l) > 0 {
		free := core.Free(l[0])
		l = l[1:]
		for i, name := range s.names {
			if _, stands := slices.BinarySearch(free, name); stands && !wanted[i] {
				wanted[i] = true
				l = append(l, s.values[i])
			}
		}
	}
	var names []string
	var values []api.Expr
	for i, is := range wanted {
		if is {
			names = append(names, s.names[i])
			values = append(values, s.values[i])
		}
	}
	return names, values
}

// headed is an expression with the constants that stand in it built ahead.
func (x *expander) headed(e api.Expr) (api.Expr, api.Errno) {
	free := core.Free(e)
	var standing []constant
	size := 0
	for _, c := range x.constants {
		if _, stands := slices.BinarySearch(free, c.name); stands {
			standing = append(standing, c)
			size += pieces(c.datum)
		}
	}
	// What can't be at the end is not built: a program of few expressions may have more pieces than there is memory for.
	if size > api.MaxCore {
		return api.Expr{}, api.ErrExpandMany
	}
	var names []string
	var kids []api.Expr
	for _, c := range standing {
		names = append(names, c.name)
		kids = append(kids, x.building(c.datum))
	}
	return bound(api.ExpLet, names, kids, e), api.OK
}
