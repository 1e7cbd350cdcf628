package fold

import (
	"math/rand"
	"scrimshaw/api"
	"scrimshaw/core"
	"slices"
)

// A second way: one thing after the other that may not be in what is folded is taken out, wherever it is, until there is none. Whichever is taken first, the same must come of it.

// rewriter knows names that it leaves as they are.
type rewriter struct {
	*rand.Rand
	left map[string]int
}

// otherFold takes them in an order that is left to chance.
func otherFold(r *rand.Rand, e api.Expr) api.Expr {
	return rewriter{Rand: r}.folded(e)
}

// atOnce is a wrong way to fold, by which a name that is set anywhere is none that means a constant, also when all the places in which it is set are gone.
func atOnce(r *rand.Rand, e api.Expr) api.Expr {
	own := core.Rename(e)
	w := rewriter{Rand: r, left: map[string]int{}}
	w.leave(own)
	return w.folded(own)
}

func (w rewriter) leave(e api.Expr) {
	if e.Kind == api.ExpSet {
		w.left[e.Name]++
	}
	for _, kid := range e.Kids {
		w.leave(kid)
	}
}

func (w rewriter) folded(e api.Expr) api.Expr {
	for {
		places := w.placesOf(e, nil)
		if len(places) == 0 {
			return e
		}
		e = w.at(e, places[w.Intn(len(places))])
	}
}

// placesOf are the ways down to what may not be, each one a row of kids' places.
func (w rewriter) placesOf(e api.Expr, way []int) [][]int {
	var out [][]int
	if _, is := w.rewrite(e); is {
		out = append(out, slices.Clone(way))
	}
	for i, kid := range e.Kids {
		out = append(out, w.placesOf(kid, append(slices.Clone(way), i))...)
	}
	return out
}

// at is an expression in which the one that a way leads to is rewritten.
func (w rewriter) at(e api.Expr, way []int) api.Expr {
	if len(way) == 0 {
		out, _ := w.rewrite(e)
		return out
	}
	out := e
	out.Kids = slices.Clone(e.Kids)
	out.Kids[way[0]] = w.at(e.Kids[way[0]], way[1:])
	return out
}

// rewrite takes one thing out of an expression itself, and tells whether there was one.
func (w rewriter) rewrite(e api.Expr) (api.Expr, bool) {
	switch e.Kind {
	case api.ExpPrim:
		if d, is := isReady(e); is {
			return api.Expr{Const: d}, true
		}
	case api.ExpIf:
		if c := e.Kids[0]; c.Kind == api.ExpQuote {
			if core.Equal(c, of("#f")) {
				return e.Kids[2], true
			}
			return e.Kids[1], true
		}
	case api.ExpSeq:
		if len(e.Kids) == 1 {
			return e.Kids[0], true
		}
		for i, kid := range e.Kids {
			if kid.Kind == api.ExpSeq {
				return kind(api.ExpSeq, slices.Replace(slices.Clone(e.Kids), i, i+1, kid.Kids...)...), true
			}
			if i < len(e.Kids)-1 && isLeaf(kid) {
				return kind(api.ExpSeq, slices.Delete(slices.Clone(e.Kids), i, i+1)...), true
			}
		}
	case api.ExpLet:
		last := len(e.Names)
		if last == 0 {
			return e.Kids[0], true
		}
		for i, name := range e.Names {
			if e.Kids[i].Kind == api.ExpQuote && w.left[name] == 0 && !isAssigned(name, e.Kids[last]) {
				out := api.Expr{Kind: api.ExpLet, Names: slices.Delete(slices.Clone(e.Names), i, i+1), Kids: slices.Delete(slices.Clone(e.Kids), i, i+1)}
				out.Kids[last-1] = instead(name, e.Kids[i], e.Kids[last])
				return out, true
			}
		}
	}
	return e, false
}

// instead has a constant in the place of each ExpRef of a name that is free in an expression.
func instead(name string, constant, e api.Expr) api.Expr {
	if e.Kind == api.ExpRef && e.Name == name {
		return constant
	}
	out := e
	out.Kids = slices.Clone(e.Kids)
	isHidden := slices.Contains(e.Names, name)
	for i, kid := range e.Kids {
		if !isHidden || e.Kind == api.ExpLet && i < len(e.Names) {
			out.Kids[i] = instead(name, constant, kid)
		}
	}
	return out
}
