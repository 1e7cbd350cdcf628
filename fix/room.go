package fix

import (
	"scrimshaw/api"
	"slices"
)

// All variables of an ExpRec are there when its first value is evaluated, and each takes a step to be made. If that value goes wrong at once, or never comes back, only few steps of the ExpRec stand against these. So no more variables are made than there is room for; the other names get cells of a vector.

const (
	worth       = 4 // how many steps may stand for one (to mean the same)
	vectorSteps = 3 // that a vector takes to be made, however many cells it has
)

// hasCrowded tells whether an ExpRec within is crowded.
func hasCrowded(e api.Expr) bool {
	return e.Kind == api.ExpRec && alone(e).isCrowded() || slices.ContainsFunc(e.Kids, hasCrowded)
}

// isCrowded tells whether there is no room for a variable of each value behind the first one that may go wrong.
func (p plan) isCrowded() bool {
	at := p.sure()
	return at < len(p.values) && variables(p.values[at+1:]) > p.room()
}

// sure is how many values that can't go wrong are ahead of all others.
func (p plan) sure() int {
	at := slices.IndexFunc(p.values, func(b binding) bool { return !isSure(b.to) })
	if at < 0 {
		return len(p.values)
	}
	return at
}

// isSure tells whether an expression takes one step, and has a value then.
func isSure(e api.Expr) bool {
	switch e.Kind {
	case api.ExpQuote, api.ExpRef, api.ExpLam:
		return true
	}
	return e.Kind == api.ExpPrim && len(e.Kids) == 0 && e.Name != "error"
}

// room is how many variables there may be for the values behind the first one that may go wrong. What its own first step leaves is there for them, too, but that of an ExpRec leaves nothing.
func (p plan) room() int {
	at, functions, assigned := p.sure(), len(p.functions), len(p.assigned)
	there := worth * (1 + p.joined + functions + assigned + at)
	if p.values[at].to.Kind != api.ExpRec {
		there += worth - 1
	}
	// An ExpLet, an ExpSeq and an ExpFix; the functions; the values ahead; and each variable is made, and set.
	taken := 2 + min(functions, 1) + functions + 3*assigned + at + 2*variables(p.values[:at+1])
	return there - taken
}

// variables is how many values something asks for.
func variables(values []binding) int {
	n := 0
	for _, b := range values {
		if b.name != "" {
			n++
		}
	}
	return n
}

// split tells which names get variables, and which ones cells.
func (p plan) split() (near, far []string) {
	for _, b := range p.assigned {
		near = append(near, b.name)
	}
	left := len(p.values)
	if p.isCrowded() {
		left = variables(p.values[:p.sure()+1]) + p.room() - vectorSteps
	}
	for _, b := range p.values {
		switch {
		case b.name == "":
		case left > 0:
			near = append(near, b.name)
			left--
		default:
			far = append(far, b.name)
		}
	}
	return near, far
}
