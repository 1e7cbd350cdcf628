package lift

import (
	"maps"
	"scrimshaw/api"
	"scrimshaw/core"
	"slices"
)

// A second way. All that there is stands in a row first, told by where it stands; names are sets that are made from the inside outwards.

// part is an expression of a program: in which Fun it is (-1: in Main), and within how many others.
type part struct {
	api.Expr
	in, within int
}

// parts are a program's, in the order in which they begin, but no more than one too many.
func parts(l api.Lifted) []part {
	var open []part
	for i := range l.Funs {
		open = append(open, part{l.Funs[len(l.Funs)-1-i].Body, len(l.Funs) - 1 - i, 1})
	}
	open = append(open, part{l.Main, -1, 1})
	var out []part
	for len(open) > 0 && len(out) <= api.MaxCore {
		p := open[len(open)-1]
		out, open = append(out, p), open[:len(open)-1]
		for i := range p.Kids {
			open = append(open, part{p.Kids[len(p.Kids)-1-i], p.in, p.within + 1})
		}
	}
	return out
}

func otherCheck(l api.Lifted) api.Errno {
	all := parts(l)
	// One that is within itself has too many parts, or is too deep.
	if len(all) > api.MaxCore || slices.ContainsFunc(all, func(p part) bool { return p.within > api.MaxWithin }) {
		return api.ErrPassMany
	}
	closers := make([][]part, len(l.Funs))
	for _, p := range all {
		if !otherMayBe(p.Expr, l) {
			return api.ErrPassForm
		}
		if p.Kind == api.ExpClo {
			closers[p.Const.Int] = append(closers[p.Const.Int], p)
		}
	}
	for i, f := range l.Funs {
		if len(closers[i]) != 1 || closers[i][0].in >= i || !otherFunMayBe(f) {
			return api.ErrPassForm
		}
	}
	if len(otherFree(l.Main)) > 0 || deepness(l.Main, l.Funs) > api.MaxWithin {
		return api.ErrPassForm
	}
	return api.OK
}

func otherFunMayBe(f api.Fun) bool {
	own := map[string]bool{}
	for _, name := range slices.Concat(f.Params, f.Frees) {
		if own[name] || core.Check(ref(name)) != api.OK {
			return false
		}
		own[name] = true
	}
	for name := range otherFree(f.Body) {
		if !own[name] {
			return false
		}
	}
	return len(f.Params) <= api.MaxParams
}

// otherMayBe is of one expression by itself: its kids are looked at as if they were constants.
func otherMayBe(e api.Expr, l api.Lifted) bool {
	switch e.Kind {
	case api.ExpLam, api.ExpRec, api.ExpSet:
		return false
	case api.ExpClo:
		place := e.Const.Int
		bare := api.Expr{Kind: api.ExpClo, Names: e.Names, Const: api.Datum{Kind: api.DatInt, Int: place}}
		return core.Equal(e, bare) && place >= 0 && place < len(l.Funs) && slices.Equal(e.Names, l.Funs[place].Frees)
	}
	bare := e
	bare.Kids = make([]api.Expr, len(e.Kids))
	if e.Kind == api.ExpFix {
		for i := range min(len(e.Names), len(e.Kids)) {
			if e.Kids[i].Kind != api.ExpClo {
				return false
			}
			bare.Kids[i] = kind(api.ExpLam, api.Expr{})
		}
	}
	return core.Check(bare) == api.OK
}

// otherFree is the set of the names that are free in an expression, lifted or not.
func otherFree(e api.Expr) map[string]bool {
	out := map[string]bool{}
	switch e.Kind {
	case api.ExpRef:
		out[e.Name] = true
	case api.ExpClo:
		for _, name := range e.Names {
			out[name] = true
		}
	}
	for i, kid := range e.Kids {
		free := otherFree(kid)
		if e.Kind != api.ExpLet || i == len(e.Kids)-1 {
			for _, name := range e.Names {
				delete(free, name)
			}
		}
		maps.Copy(out, free)
	}
	return out
}

// deepness is how many expressions are within one another in what is lowered.
func deepness(e api.Expr, funs []api.Fun) int {
	if e.Kind == api.ExpClo {
		return 1 + deepness(funs[e.Const.Int].Body, funs)
	}
	deepest := 0
	for _, kid := range e.Kids {
		deepest = max(deepest, deepness(kid, funs))
	}
	return 1 + deepest
}

// otherLift is of an expression that may be handed in. How many functions there are in one tells the next one's place.
func otherLift(e api.Expr) api.Lifted {
	out := api.Lifted{Main: otherLifted(e, 0)}
	for _, p := range parts(api.Lifted{Main: e}) {
		if p.Kind == api.ExpLam {
			f := api.Fun{Params: p.Names, Frees: slices.Sorted(maps.Keys(otherFree(p.Expr))), Body: otherLifted(p.Kids[0], len(out.Funs)+1)}
			out.Funs = append(out.Funs, f)
		}
	}
	return out
}

func otherLifted(e api.Expr, first int) api.Expr {
	if e.Kind == api.ExpLam {
		return clo(first, slices.Sorted(maps.Keys(otherFree(e)))...)
	}
	out := e
	out.Kids = nil
	for _, kid := range e.Kids {
		out.Kids = append(out.Kids, otherLifted(kid, first))
		for _, p := range parts(api.Lifted{Main: kid}) {
			if p.Kind == api.ExpLam {
				first++
			}
		}
	}
	return out
}

// isInOrder tells whether a program that is lifted is as Lift lays it: as they begin the places of its ExpClos, each followed by those in its Fun, rise; and its Frees are just those that are free.
func isInOrder(l api.Lifted) bool {
	next := 0
	if !isRising(l.Main, l.Funs, &next) {
		return false
	}
	return !slices.ContainsFunc(l.Funs, func(f api.Fun) bool {
		e := kind(api.ExpLam, lessFrees(f.Body, l.Funs))
		e.Names = f.Params
		return !slices.Equal(f.Frees, slices.Sorted(maps.Keys(otherFree(e))))
	})
}

func isRising(e api.Expr, funs []api.Fun, next *int) bool {
	if e.Kind == api.ExpClo {
		*next++
		return e.Const.Int == *next-1 && isRising(funs[e.Const.Int].Body, funs, next)
	}
	return !slices.ContainsFunc(e.Kids, func(kid api.Expr) bool { return !isRising(kid, funs, next) })
}

// lessFrees has functions in the place of ExpClos, so that a name which is held in vain is not free.
func lessFrees(e api.Expr, funs []api.Fun) api.Expr {
	out := e
	if e.Kind == api.ExpClo {
		f := funs[e.Const.Int]
		return api.Expr{Kind: api.ExpLam, Names: f.Params, Kids: []api.Expr{lessFrees(f.Body, funs)}}
	}
	out.Kids = nil
	for _, kid := range e.Kids {
		out.Kids = append(out.Kids, lessFrees(kid, funs))
	}
	return out
}
