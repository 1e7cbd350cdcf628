package fold

import (
	"maps"
	"scrimshaw/api"
	"slices"
)

// let is an ExpLet without the names that mean constants, or its body, if it has no others.
func (f folder) let(e api.Expr) api.Expr {
	last := len(e.Names)
	out := api.Expr{Kind: api.ExpLet, Names: slices.Clone(e.Names), Kids: f.all(e.Kids[:last])}
	body := e.Kids[last]
	constants := takeConstants(&out, body)
	for {
		body = f.body(out.Names, constants, body)
		// Where a name was set may be gone by now, so that it means a constant after all.
		if constants = takeConstants(&out, body); len(constants) == 0 {
			break
		}
	}
	if len(out.Names) == 0 {
		return body
	}
	out.Kids = append(out.Kids, body)
	return out
}

// body is folded where some names mean constants, and others may mean anything.
func (f folder) body(others []string, constants folder, e api.Expr) api.Expr {
	var out api.Expr
	f.hiding(slices.AppendSeq(slices.Clone(others), maps.Keys(constants)), func() {
		maps.Copy(f, constants)
		out = f.folded(e)
		for name := range constants {
			delete(f, name)
		}
	})
	return out
}

// hiding does something where names are bound anew: what is known of them further out does not hold there.
func (f folder) hiding(names []string, do func()) {
	hidden := folder{}
	for _, name := range names {
		if d, is := f[name]; is {
			hidden[name] = d
			delete(f, name)
		}
	}
	do()
	maps.Copy(f, hidden)
}

// takeConstants takes out of an ExpLet, which has no body yet, the names that are bound to constants and not set in the body.
func takeConstants(let *api.Expr, body api.Expr) folder {
	if !slices.ContainsFunc(let.Kids, isQuote) {
		return nil
	}
	s := setter{times: map[string]int{}, hidden: map[string]int{}}
	s.look(body)
	out := folder{}
	var names []string
	var kids []api.Expr
	for i, name := range let.Names {
		if kid := let.Kids[i]; isQuote(kid) && s.times[name] == 0 {
			out[name] = kid.Const
		} else {
			names, kids = append(names, name), append(kids, kid)
		}
	}
	let.Names, let.Kids = names, kids
	return out
}

func isQuote(e api.Expr) bool { return e.Kind == api.ExpQuote }

// setter counts how often each name is set where nothing within binds it, and how often each one is bound where it is just now.
type setter struct{ times, hidden map[string]int }

func (s setter) look(e api.Expr) {
	if e.Kind == api.ExpSet && s.hidden[e.Name] == 0 {
		s.times[e.Name]++
	}
	outside := 0
	if e.Kind == api.ExpLet {
		outside = len(e.Names)
	}
	s.lookAll(e.Kids[:outside])
	s.hide(e.Names, 1)
	s.lookAll(e.Kids[outside:])
	s.hide(e.Names, -1)
}

func (s setter) lookAll(l []api.Expr) {
	for _, e := range l {
		s.look(e)
	}
}

func (s setter) hide(names []string, by int) {
	for _, name := range names {
		s.hidden[name] += by
	}
}
