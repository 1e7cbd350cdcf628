package anf

import (
	"scrimshaw/api"
	"slices"
	"strconv"
)

// A second way, the chapter's: one after the other, and from the inside outwards, what is not simple is bound by an ExpLet of its own.

// otherName may answer an expression that has too many parts.
func otherName(e api.Expr) api.Expr {
	n := 0
	return otherNamed(e, &n)
}

func otherNamed(e api.Expr, n *int) api.Expr {
	out := e
	out.Kids = slices.Clone(e.Kids)
	for i, kid := range e.Kids {
		out.Kids[i] = otherNamed(kid, n)
	}
	places := unsimple(out)
	if len(places) == 0 {
		return out
	}
	// No name of a program has two dots.
	name := "other.." + strconv.Itoa(*n)
	*n++
	let := api.Expr{Kind: api.ExpLet, Names: []string{name}, Kids: []api.Expr{out.Kids[places[0]]}}
	out.Kids[places[0]] = ref(name)
	// The kids are named already; of the expression itself there is one kid less to bind.
	let.Kids = append(let.Kids, otherNamed(out, n))
	return let
}

// joined has each row of the second way's ExpLets, one the body of the other, as one.
func joined(e api.Expr) api.Expr {
	out := e
	out.Kids = nil
	for _, kid := range e.Kids {
		out.Kids = append(out.Kids, joined(kid))
	}
	if body := len(out.Kids) - 1; isOthers(out) && isOthers(out.Kids[body]) {
		inner := out.Kids[body]
		out.Names = slices.Concat(out.Names, inner.Names)
		out.Kids = slices.Concat(out.Kids[:body], inner.Kids)
	}
	return out
}

func isOthers(e api.Expr) bool {
	return e.Kind == api.ExpLet && len(e.Names) > 0 && len(e.Names[0]) > 7 && e.Names[0][:7] == "other.."
}
