package fix

import (
	"scrimshaw/api"
	"scrimshaw/core"
	"slices"
)

// binding is a name, and what it is bound to. One without a name is evaluated, but nothing asks for its value.
type binding struct {
	name string
	to   api.Expr
}

// plan is what becomes of an ExpRec, or an ExpFix.
type plan struct {
	functions []binding // bound to each other
	assigned  []binding // functions as well, but set, ahead of the values
	values    []binding // set in order
	body      api.Expr
	joined    int // how many other ExpRecs it does the work of
}

// planOf joins to what is crowded the ExpRec that the first value is that may go wrong: then the steps of both are there for the variables.
func planOf(e api.Expr) plan {
	p := alone(e)
	for p.isCrowded() && p.values[p.sure()].to.Kind == api.ExpRec {
		p.join(p.sure())
	}
	return p
}

// alone is the plan of one ExpRec, or ExpFix, by itself.
func alone(e api.Expr) plan {
	p := plan{body: e.Kids[len(e.Names)]}
	whole := api.Expr{Kind: api.ExpSeq, Kids: e.Kids}
	asked, set := core.Free(whole), core.Free(withoutRefs(whole))
	for i, name := range e.Names {
		b := binding{name, e.Kids[i]}
		_, isAsked := slices.BinarySearch(asked, name)
		_, isSet := slices.BinarySearch(set, name)
		switch {
		case b.to.Kind == api.ExpLam && isSet:
			p.assigned = append(p.assigned, b)
		case b.to.Kind == api.ExpLam:
			p.functions = append(p.functions, b)
		case isAsked:
			p.values = append(p.values, b)
		default:
			p.values = append(p.values, binding{to: b.to})
		}
	}
	return p
}

// withoutRefs is an expression in which a name is free only where it is set.
func withoutRefs(e api.Expr) api.Expr {
	if e.Kind == api.ExpRef {
		return api.Expr{}
	}
	out := api.Expr{Kind: e.Kind, Name: e.Name, Names: e.Names}
	for _, kid := range e.Kids {
		out.Kids = append(out.Kids, withoutRefs(kid))
	}
	return out
}

// join takes what the ExpRec of a place binds into the plan; no name may be bound twice. Nothing ahead of it can be come back to, so that it is evaluated once each time that the whole is.
func (p *plan) join(at int) {
	inner := alone(p.values[at].to)
	last := binding{p.values[at].name, inner.body}
	p.functions = append(p.functions, inner.functions...)
	p.assigned = append(p.assigned, inner.assigned...)
	p.values = slices.Concat(p.values[:at], inner.values, []binding{last}, p.values[at+1:])
	p.joined++
}
