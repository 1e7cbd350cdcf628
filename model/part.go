package model

import (
	"scrimshaw/api"
	"scrimshaw/heap"
)

// part is an expression whose names are places; of ExpRec and ExpFix the kids stand in the order in which they are evaluated.
type part struct {
	kind     int
	prim     string
	constant api.Val
	variable place
	names    int // how many it binds
	kids     []part
}

// place is where a variable is: so many scopes further out, and there so many behind the first one.
type place struct{ out, at int }

// placed is an expression that may be, and in which no name is free.
func placed(e api.Expr) part {
	p := placer{bound: map[string][]place{}}
	return p.placed(e)
}

// placer knows within how many scopes it is just now; and of each name the scopes, counted from the outermost one, in which it is bound, the innermost last.
type placer struct {
	within int
	bound  map[string][]place
}

func (p *placer) placed(e api.Expr) part {
	out := part{kind: e.Kind, names: len(e.Names), kids: make([]part, 0, len(e.Kids))}
	switch e.Kind {
	case api.ExpQuote:
		out.constant, _ = heap.Const(e.Const)
	case api.ExpRef, api.ExpSet:
		out.variable = p.place(e.Name)
	case api.ExpPrim:
		out.prim = e.Name
	}
	names, outside, inside := sides(e)
	out.kids = p.placedAll(out.kids, outside)
	p.bind(e.Kind, names)
	out.kids = p.placedAll(out.kids, inside)
	p.release(names)
	return out
}

// placedAll are those that are there already, and the kids.
func (p *placer) placedAll(there []part, kids []api.Expr) []part {
	for _, kid := range kids {
		there = append(there, p.placed(kid))
	}
	return there
}

func (p *placer) place(name string) place {
	l := p.bound[name]
	found := l[len(l)-1]
	return place{out: p.within - found.out, at: found.at}
}

func (p *placer) bind(kind int, names []string) {
	p.within++
	for i, name := range names {
		p.bound[name] = append(p.bound[name], place{out: p.within, at: firstOf(kind) + i})
	}
}

func (p *placer) release(names []string) {
	p.within--
	for _, name := range names {
		p.bound[name] = p.bound[name][:len(p.bound[name])-1]
	}
}

// firstOf is the place of the first variable of a scope: in that of a function what was called stands ahead of what it was called with.
func firstOf(kind int) int {
	if kind == api.ExpLam {
		return 1
	}
	return 0
}

// sides are an expression's names, the kids in which they are not bound, and those in which they are (none where there is no scope), all in the order of the evaluation.
func sides(e api.Expr) (names []string, outside, inside []api.Expr) {
	switch e.Kind {
	case api.ExpLam:
		return e.Names, nil, e.Kids
	case api.ExpLet:
		return e.Names, e.Kids[:len(e.Names)], e.Kids[len(e.Names):]
	case api.ExpRec, api.ExpFix:
		names, kids := functionsFirst(e)
		return names, nil, kids
	}
	return nil, e.Kids, nil
}

// functionsFirst are the names and the kids of an ExpRec or an ExpFix: first those of functions, then the others, then the body.
func functionsFirst(e api.Expr) ([]string, []api.Expr) {
	var names, others []string
	var kids, rest []api.Expr
	for i, name := range e.Names {
		if e.Kids[i].Kind == api.ExpLam {
			names, kids = append(names, name), append(kids, e.Kids[i])
		} else {
			others, rest = append(others, name), append(rest, e.Kids[i])
		}
	}
	body := e.Kids[len(e.Names)]
	return append(names, others...), append(append(kids, rest...), body)
}
