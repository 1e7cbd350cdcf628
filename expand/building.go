package expand

import (
	"scrimshaw/api"
	"scrimshaw/data"
	"slices"
)

// constant is a datum that is built at the head of the program, and the variable's name that stands for it.
type constant struct {
	name  string
	datum api.Datum
}

// constant is the expression of a datum that is told as it is.
func (x *expander) constant(d api.Datum) api.Expr {
	d = stripped(d)
	if isAtom(d) {
		return quote(d)
	}
	name := x.fresh("c")
	x.constants = append(x.constants, constant{name, d})
	return ref(name)
}

// isAtom is of what an ExpQuote may have.
func isAtom(d api.Datum) bool {
	switch d.Kind {
	case api.DatString, api.DatVector:
		return false
	}
	return len(d.List) == 0
}

// building is the expression that makes a datum anew.
func (x *expander) building(d api.Datum) api.Expr {
	if isAtom(d) {
		return quote(d)
	}
	switch d.Kind {
	case api.DatString:
		return x.text(d.Text)
	case api.DatVector:
		name := x.fresh("w")
		empty := api.Datum{Kind: api.DatBool}
		return filled(name, prim("make-vector", number(len(d.List)), quote(empty)), "vector-set!", x.buildings(d.List))
	}
	items, tail := data.Items(d)
	built := x.buildings(items)
	out := x.building(tail)
	for _, item := range slices.Backward(built) {
		out = prim("cons", item, out)
	}
	return out
}

func (x *expander) buildings(l []api.Datum) []api.Expr {
	var out []api.Expr
	for _, d := range l {
		out = append(out, x.building(d))
	}
	return out
}

func (x *expander) text(s string) api.Expr {
	var bytes []api.Expr
	for i := range len(s) {
		bytes = append(bytes, char(s[i]))
	}
	return filled(x.fresh("s"), prim("make-string", number(len(s)), char(0)), "string-set!", bytes)
}

// filled is what is made, with each part put in its place.
func filled(name string, made api.Expr, putting string, parts []api.Expr) api.Expr {
	var kids []api.Expr
	for i, part := range parts {
		kids = append(kids, prim(putting, ref(name), number(i), part))
	}
	return bound(api.ExpLet, []string{name}, []api.Expr{made}, inOrder(append(kids, ref(name))))
}

func number(n int) api.Expr { return quote(api.Datum{Kind: api.DatInt, Int: n}) }

func char(b byte) api.Expr { return quote(api.Datum{Kind: api.DatChar, Int: int(b)}) }

// pieces is no more than how many expressions a datum's building has.
func pieces(d api.Datum) int {
	n := 1
	if d.Kind == api.DatString {
		n += len(d.Text)
	}
	for _, item := range d.List {
		n += pieces(item)
	}
	return n
}
