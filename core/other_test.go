package core

import (
	"scrimshaw/api"
	"scrimshaw/data"
	"slices"
	"strconv"
	"strings"
)

// The other way of the tests: an expression is laid flat, each part with the way that leads to it; what may be is told from a table, and where a name is bound by going back on the way.

type part struct {
	e     api.Expr
	above int // its place in the row, or -1
	which int // of the kids of what is above
	deep  int
}

// flat are the parts in order, no more than one beyond those that may be, and none below one that is too deep.
func flat(e api.Expr) []part {
	var out []part
	stack := []part{{e: e, above: -1}}
	for len(stack) > 0 && len(out) <= 4096 {
		p := stack[len(stack)-1]
		stack = stack[:len(stack)-1]
		out = append(out, p)
		if p.deep < 250 {
			for i := min(len(p.e.Kids), 5000) - 1; i >= 0; i-- {
				stack = append(stack, part{p.e.Kids[i], len(out) - 1, i, p.deep + 1})
			}
		}
	}
	return out
}

// shape is a line of the table: the fewest kids and the most, not counting one for each of Names; and which fields are used.
type shape struct{ fewest, most, name, names, constant int }

func shapes() []shape {
	const any = 1 << 30
	return []shape{{0, 0, 0, 0, 1}, {0, 0, 1, 0, 0}, {1, 1, 1, 0, 0}, {3, 3, 0, 0, 0}, {2, any, 0, 0, 0}, {1, 1, 0, 1, 0}, {1, 7, 0, 0, 0}, {0, 3, 2, 0, 0}, {1, 1, 0, 2, 0}, {1, 1, 0, 2, 0}, {1, 1, 0, 3, 0}}
}

func otherFormed(e api.Expr) bool {
	if e.Kind < 0 || e.Kind > 10 {
		return false
	}
	s := shapes()[e.Kind]
	bound := 0
	if s.names >= 2 {
		bound = len(e.Names)
	}
	if n := len(e.Kids) - bound; n < s.fewest || n > s.most {
		return false
	}
	sorted := slices.Sorted(slices.Values(e.Names))
	if len(slices.Compact(sorted)) != len(e.Names) || s.names == 0 && len(e.Names) > 0 || s.names == 1 && len(e.Names) > 6 || s.names == 3 && len(e.Names) == 0 {
		return false
	}
	for i, name := range e.Names {
		if !data.Name(name) || s.names == 3 && e.Kids[i].Kind != 5 {
			return false
		}
	}
	arity, is := arities[e.Name]
	if s.name == 0 && e.Name != "" || s.name == 1 && !data.Name(e.Name) || s.name == 2 && (!is || arity != len(e.Kids)) {
		return false
	}
	if s.constant == 0 {
		return data.Equal(e.Const, api.Datum{})
	}
	text, wrong := data.Text(e.Const)
	return wrong == api.OK && e.Const.Kind != api.DatString && (e.Const.Kind < api.DatList || text == "()")
}

func otherCheck(e api.Expr) api.Errno {
	for i, p := range flat(e) {
		switch {
		case i >= 4096:
			return api.ErrCoreMany
		case p.deep >= 250:
			return api.ErrCoreDeep
		case !otherFormed(p.e):
			return api.ErrCoreForm
		}
	}
	return api.OK
}

// binder is the place of the part which binds a name where it stands at a part, or -1.
func binder(parts []part, at int, name string) int {
	which := -1
	for at >= 0 {
		e := parts[at].e
		binds := which >= 0 && (e.Kind == api.ExpLam || e.Kind >= api.ExpRec && e.Kind <= api.ExpFix || e.Kind == api.ExpLet && which == len(e.Kids)-1)
		if binds && slices.Contains(e.Names, name) {
			return at
		}
		which, at = parts[at].which, parts[at].above
	}
	return -1
}

func otherFree(e api.Expr) []string {
	var out []string
	parts := flat(e)
	for i, p := range parts {
		if (p.e.Kind == api.ExpRef || p.e.Kind == api.ExpSet) && binder(parts, i, p.e.Name) < 0 {
			out = append(out, p.e.Name)
		}
	}
	slices.Sort(out)
	return slices.Compact(out)
}

func otherRename(e api.Expr) api.Expr {
	if otherCheck(e) != api.OK {
		return api.Expr{}
	}
	parts := flat(e)
	var there []string
	for _, p := range parts {
		there = append(there, p.e.Names...)
		if p.e.Kind != api.ExpPrim {
			there = append(there, p.e.Name)
		}
	}
	standing := " " + strings.Join(there, " ") + " "
	renamed := make([][]string, len(parts))
	n := 0
	for i, p := range parts {
		for len(renamed[i]) < len(p.e.Names) {
			if name := "v." + strconv.Itoa(n); !strings.Contains(standing, " "+name+" ") {
				renamed[i] = append(renamed[i], name)
			}
			n++
		}
	}
	made := make([]api.Expr, len(parts))
	for i := len(parts) - 1; i >= 0; i-- { // the kids are there ahead of what they are within
		p := parts[i]
		made[i].Kind, made[i].Name, made[i].Names, made[i].Const = p.e.Kind, p.e.Name, renamed[i], p.e.Const
		if p.e.Kind == api.ExpRef || p.e.Kind == api.ExpSet {
			if at := binder(parts, i, p.e.Name); at >= 0 {
				made[i].Name = renamed[at][slices.Index(parts[at].e.Names, p.e.Name)]
			}
		}
		slices.Reverse(made[i].Kids)
		if p.above >= 0 {
			made[p.above].Kids = append(made[p.above].Kids, made[i])
		}
	}
	return made[0]
}

// otherMade takes a datum that must be laid just so, or panics.
func otherMade(d api.Datum, deep int) api.Expr {
	if deep > 250 {
		panic("too deep")
	}
	if d.Kind == api.DatSymbol {
		return api.Expr{Kind: api.ExpRef, Name: nameOf(d)}
	}
	l := itemsOf(d)
	kind := slices.Index([]string{"quote", "\n", "set!", "if", "begin", "lambda", "call", "prim", "let", "letrec", "fix"}, nameOf(l[0]))
	e := api.Expr{Kind: kind}
	rest := l[1:]
	switch kind {
	case api.ExpQuote:
		e.Const = rest[0]
		if len(rest) != 1 || data.Check(e.Const) != api.OK {
			panic("a constant")
		}
		return e
	case api.ExpSet, api.ExpPrim:
		e.Name, rest = nameOf(rest[0]), rest[1:]
	case api.ExpLam:
		for _, d := range itemsOf(rest[0]) {
			e.Names = append(e.Names, nameOf(d))
		}
		rest = rest[1:]
	case api.ExpLet, api.ExpRec, api.ExpFix:
		for _, d := range itemsOf(rest[0]) {
			both := itemsOf(d)
			if len(both) != 2 {
				panic("a binding")
			}
			e.Names = append(e.Names, nameOf(both[0]))
			e.Kids = append(e.Kids, otherMade(both[1], deep+1))
		}
		rest = rest[1:]
		if len(rest) != 1 {
			panic("a body")
		}
	}
	for _, d := range rest {
		e.Kids = append(e.Kids, otherMade(d, deep+1))
	}
	return e
}

func nameOf(d api.Datum) string {
	if d.Kind != api.DatSymbol || data.Check(d) != api.OK {
		panic("no name")
	}
	return d.Text
}

func itemsOf(d api.Datum) []api.Datum {
	if d.Kind != api.DatList || d.Int != 0 || d.Text != "" {
		panic("no list")
	}
	return d.List
}

func otherMake(d api.Datum) (e api.Expr, err api.Errno) {
	defer func() {
		if recover() != nil {
			e, err = api.Expr{}, api.ErrCoreForm
		}
	}()
	e = otherMade(d, 1)
	if otherCheck(e) != api.OK {
		panic("it may not be")
	}
	return e, api.OK
}
