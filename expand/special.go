package expand

import (
	"scrimshaw/api"
	"slices"
)

// special is the expression of a special form, of what stands behind its word.
func (x *expander) special(name string, parts []api.Datum, at *place) (api.Expr, api.Errno) {
	switch name {
	case "quote":
		if len(parts) == 1 {
			return x.constant(parts[0]), api.OK
		}
	case "if":
		return x.cond(parts, at)
	case "begin":
		if len(parts) > 0 {
			return x.sequence(parts, at)
		}
	case "set!":
		return x.set(parts, at)
	case "lambda":
		return x.lambda(parts, at)
	case "letrec":
		return x.letrec(parts, at)
	case "let-syntax":
		inner := within(at)
		return x.letSyntax(parts, at, inner)
	case "letrec-syntax":
		inner := within(at)
		return x.letSyntax(parts, inner, inner)
	}
	return api.Expr{}, api.ErrExpandForm
}

func (x *expander) cond(parts []api.Datum, at *place) (api.Expr, api.Errno) {
	if len(parts) != 2 && len(parts) != 3 {
		return api.Expr{}, api.ErrExpandForm
	}
	kids, wrong := x.exprs(parts, at)
	if wrong != api.OK {
		return api.Expr{}, wrong
	}
	if len(kids) == 2 {
		kids = append(kids, prim("void"))
	}
	return api.Expr{Kind: api.ExpIf, Kids: kids}, api.OK
}

// sequence is of one datum at least.
func (x *expander) sequence(l []api.Datum, at *place) (api.Expr, api.Errno) {
	kids, wrong := x.exprs(l, at)
	if wrong != api.OK {
		return api.Expr{}, wrong
	}
	return inOrder(kids), api.OK
}

func (x *expander) set(parts []api.Datum, at *place) (api.Expr, api.Errno) {
	if len(parts) != 2 || parts[0].Kind != api.DatSymbol {
		return api.Expr{}, api.ErrExpandForm
	}
	name, wrong := x.variable(parts[0], at)
	if wrong != api.OK {
		return api.Expr{}, wrong
	}
	kid, wrong := x.expr(parts[1], at)
	if wrong != api.OK {
		return api.Expr{}, wrong
	}
	return api.Expr{Kind: api.ExpSet, Name: name, Kids: []api.Expr{kid}}, api.OK
}

func (x *expander) lambda(parts []api.Datum, at *place) (api.Expr, api.Errno) {
	if len(parts) < 2 {
		return api.Expr{}, api.ErrExpandForm
	}
	l, is := symbols(parts[0])
	if !is {
		return api.Expr{}, api.ErrExpandForm
	}
	if len(l) > api.MaxParams {
		return api.Expr{}, api.ErrExpandCount
	}
	if hasTwice(l) {
		return api.Expr{}, api.ErrExpandTwice
	}
	inner := within(at)
	names := x.bindAll(l, inner)
	body, wrong := x.body(parts[1:], inner)
	if wrong != api.OK {
		return api.Expr{}, wrong
	}
	return api.Expr{Kind: api.ExpLam, Names: names, Kids: []api.Expr{body}}, api.OK
}

func (x *expander) letrec(parts []api.Datum, at *place) (api.Expr, api.Errno) {
	l, values, wrong := pairs(parts)
	if wrong != api.OK {
		return api.Expr{}, wrong
	}
	inner := within(at)
	names := x.bindAll(l, inner)
	kids, wrong := x.exprs(values, inner)
	if wrong != api.OK {
		return api.Expr{}, wrong
	}
	body, wrong := x.body(parts[1:], inner)
	if wrong != api.OK {
		return api.Expr{}, wrong
	}
	return bound(api.ExpRec, names, kids, body), api.OK
}

// letSyntax binds macros, which are defined at one place, in another.
func (x *expander) letSyntax(parts []api.Datum, at, inner *place) (api.Expr, api.Errno) {
	l, given, wrong := pairs(parts)
	if wrong != api.OK {
		return api.Expr{}, wrong
	}
	for i, s := range l {
		m, wrong := x.macro(given[i], at)
		if wrong != api.OK {
			return api.Expr{}, wrong
		}
		inner.means[s] = m
	}
	return x.body(parts[1:], inner)
}

// pairs are the symbols, and the data behind them, of ((S D) ..) with a body behind it; or what is wrong with that.
func pairs(parts []api.Datum) ([]string, []api.Datum, api.Errno) {
	if len(parts) < 2 || parts[0].Kind != api.DatList {
		return nil, nil, api.ErrExpandForm
	}
	var l []string
	var behind []api.Datum
	for _, d := range parts[0].List {
		if d.Kind != api.DatList || len(d.List) != 2 || d.List[0].Kind != api.DatSymbol {
			return nil, nil, api.ErrExpandForm
		}
		l = append(l, d.List[0].Text)
		behind = append(behind, d.List[1])
	}
	if hasTwice(l) {
		return nil, nil, api.ErrExpandTwice
	}
	return l, behind, api.OK
}

// symbols are those of a list that has nothing else.
func symbols(d api.Datum) ([]string, bool) {
	if d.Kind != api.DatList {
		return nil, false
	}
	var l []string
	for _, item := range d.List {
		if item.Kind != api.DatSymbol {
			return nil, false
		}
		l = append(l, item.Text)
	}
	return l, true
}

func hasTwice(l []string) bool {
	sorted := slices.Sorted(slices.Values(l))
	return len(slices.Compact(sorted)) < len(l)
}
