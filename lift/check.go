package lift

import (
	"scrimshaw/api"
	"scrimshaw/core"
	"slices"
)

// Check tells whether a program is lifted.
func Check(l api.Lifted) api.Errno {
	if isTooMuch(l) {
		return api.ErrPassMany
	}
	if !areClosuresRight(l) || core.Check(lowered(l)) != api.OK || !areNamesRight(l) {
		return api.ErrPassForm
	}
	return api.OK
}

// isTooMuch counts expressions; Funs need no count of their own, since each one's Body is one at least.
func isTooMuch(l api.Lifted) bool {
	c := counter{}
	return c.isBeyond(l.Main, 0) || slices.ContainsFunc(l.Funs, func(f api.Fun) bool { return c.isBeyond(f.Body, 0) })
}

// counter counts over the whole program, so that it ends also where expressions are within themselves.
type counter struct{ begun int }

func (c *counter) isBeyond(e api.Expr, within int) bool {
	if c.begun == api.MaxCore || within == api.MaxWithin {
		return true
	}
	c.begun++
	return slices.ContainsFunc(e.Kids, func(kid api.Expr) bool { return c.isBeyond(kid, within+1) })
}

// areClosuresRight looks at what is not to be seen any more when a program is lowered; and whether it can be: whether each function stands in one place, and none within itself.
func areClosuresRight(l api.Lifted) bool {
	c := make(closures, len(l.Funs))
	if c.isWrong(l.Main) {
		return false
	}
	for i, f := range l.Funs {
		// Its closure stands ahead. One further on, in its own Body too, would not be the first.
		if c[i] == 0 || c.isWrong(f.Body) {
			return false
		}
	}
	return true
}

// closures are how many of each Fun were come to.
type closures []int

func (c closures) isWrong(e api.Expr) bool {
	switch e.Kind {
	case api.ExpLam, api.ExpRec, api.ExpSet:
		return true
	case api.ExpClo:
		return !c.isFirst(e)
	}
	return slices.ContainsFunc(e.Kids, c.isWrong)
}

// isFirst tells whether an ExpClo is the first one of a Fun, and has nothing besides but names.
func (c closures) isFirst(e api.Expr) bool {
	place := e.Const.Int
	isPlace := e.Const.Kind == api.DatInt && e.Const.Text == "" && len(e.Const.List) == 0 && 0 <= place && place < len(c)
	if !isPlace || e.Name != "" || len(e.Kids) > 0 {
		return false
	}
	c[place]++
	return c[place] == 1
}

// areNamesRight is of a program that becomes an expression that may be when it is lowered. So what is bound in it, and Params, are names; Frees are, too, since a closure holds what is bound where it is made.
func areNamesRight(l api.Lifted) bool {
	if newScope(l.Funs).isWrong(l.Main) {
		return false
	}
	for _, f := range l.Funs {
		s := newScope(l.Funs)
		s.count(f.Params, 1)
		s.count(f.Frees, 1)
		isTwice := len(s.bound) < len(f.Params)+len(f.Frees)
		if isTwice || s.isWrong(f.Body) {
			return false
		}
	}
	return true
}

// scope knows how often each name is bound where it is just now.
type scope struct {
	funs  []api.Fun
	bound map[string]int
}

func newScope(funs []api.Fun) scope { return scope{funs: funs, bound: map[string]int{}} }

// isWrong tells whether a name is free, or a closure's names are not its Fun's.
func (s scope) isWrong(e api.Expr) bool {
	switch e.Kind {
	case api.ExpRef:
		return s.isFree(e.Name)
	case api.ExpClo:
		return !s.hasAll(e.Names) || !slices.Equal(e.Names, s.funs[e.Const.Int].Frees)
	}
	from := 0
	if e.Kind == api.ExpLet {
		from = len(e.Names)
	}
	if slices.ContainsFunc(e.Kids[:from], s.isWrong) {
		return true
	}
	s.count(e.Names, 1)
	wrong := slices.ContainsFunc(e.Kids[from:], s.isWrong)
	s.count(e.Names, -1)
	return wrong
}

// hasAll tells whether all names are bound here. Where there are more of them than were ever bound, which may be any number, none is looked at: one is free, or two are the same.
func (s scope) hasAll(names []string) bool {
	return len(names) <= len(s.bound) && !slices.ContainsFunc(names, s.isFree)
}

func (s scope) isFree(name string) bool { return s.bound[name] == 0 }

func (s scope) count(names []string, by int) {
	for _, name := range names {
		s.bound[name] += by
	}
}
