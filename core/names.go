package core

import (
	"maps"
	"scrimshaw/api"
	"scrimshaw/data"
	"slices"
	"strconv"
)

// Free is the names that are free in an expression, also in one that may not be.
func Free(e api.Expr) []string {
	s := seeker{bound: map[string]int{}, free: map[string]int{}}
	s.seek(e)
	return slices.Sorted(maps.Keys(s.free))
}

// Rename is an expression with new names for all that it binds.
func Rename(e api.Expr) api.Expr {
	if Check(e) != api.OK {
		return api.Expr{}
	}
	r := renamer{standing: map[string]int{}, bound: map[string][]int{}}
	r.gather(e)
	return r.renamed(e)
}

// seeker knows how often each name is bound where it is just now, and how often it came upon each free one.
type seeker struct{ bound, free map[string]int }

func (s seeker) seek(e api.Expr) {
	if isVariable(e) && s.bound[e.Name] == 0 {
		s.free[e.Name]++
	}
	from := boundFrom(e)
	for _, kid := range e.Kids[:from] {
		s.seek(kid)
	}
	s.count(e.Names, 1)
	for _, kid := range e.Kids[from:] {
		s.seek(kid)
	}
	s.count(e.Names, -1)
}

func (s seeker) count(names []string, by int) {
	for _, name := range names {
		s.bound[name] += by
	}
}

// renamer knows which names stand in the expression, and how often; and by which new names' numbers each one is bound where it is just now, the innermost last.
type renamer struct {
	standing map[string]int
	bound    map[string][]int
	next     int
}

func (r *renamer) gather(e api.Expr) {
	if e.Kind != api.ExpPrim {
		r.standing[e.Name]++
	}
	for _, name := range e.Names {
		r.standing[name]++
	}
	for _, kid := range e.Kids {
		r.gather(kid)
	}
}

func (r *renamer) renamed(e api.Expr) api.Expr {
	out := api.Expr{Kind: e.Kind, Name: e.Name, Const: data.Make(nil, e.Const)}
	if isVariable(e) {
		out.Name = r.nameNow(e.Name)
	}
	numbers := r.numbers(len(e.Names))
	for _, n := range numbers {
		out.Names = append(out.Names, numbered(n))
	}
	from := boundFrom(e)
	out.Kids = r.renamedAll(out.Kids, e.Kids[:from])
	for i, name := range e.Names {
		r.bound[name] = append(r.bound[name], numbers[i])
	}
	out.Kids = r.renamedAll(out.Kids, e.Kids[from:])
	for _, name := range e.Names {
		r.bound[name] = r.bound[name][:len(r.bound[name])-1]
	}
	return out
}

// renamedAll are those that are there already, and the kids renamed.
func (r *renamer) renamedAll(there, kids []api.Expr) []api.Expr {
	for _, kid := range kids {
		there = append(there, r.renamed(kid))
	}
	return there
}

func (r *renamer) nameNow(name string) string {
	numbers := r.bound[name]
	if len(numbers) == 0 {
		return name
	}
	return numbered(numbers[len(numbers)-1])
}

// numbers are the next so many of which the names stand nowhere.
func (r *renamer) numbers(many int) []int {
	var out []int
	for len(out) < many {
		if r.standing[numbered(r.next)] == 0 {
			out = append(out, r.next)
		}
		r.next++
	}
	return out
}

func numbered(n int) string { return "v." + strconv.Itoa(n) }

func isVariable(e api.Expr) bool { return e.Kind == api.ExpRef || e.Kind == api.ExpSet }

// boundFrom is the place of the first kid in which an expression's Names are bound; in all behind it they are, too.
func boundFrom(e api.Expr) int {
	switch e.Kind {
	case api.ExpLam, api.ExpRec, api.ExpFix:
		return 0
	case api.ExpLet:
		return max(len(e.Kids)-1, 0)
	}
	return len(e.Kids)
}
