package expand

import (
	"scrimshaw/api"
	"scrimshaw/core"
	"strconv"
)

// place binds symbols to meanings, and stands within another one; the outermost one of all, the base, is none of these (see basic).
type place struct {
	outer *place
	means map[string]meaning
}

// meaning is what a symbol is bound to; two of the same binding are the same, and of no other ones.
type meaning struct {
	kind  int
	name  string // of a special form, a primitive; of a variable the new one
	macro *macro
}

// Kinds of meanings.
const (
	nothing = iota
	specialForm
	primitive
	syntax
	variable
)

func within(outer *place) *place { return &place{outer: outer, means: map[string]meaning{}} }

func (p *place) binds(s string) bool {
	_, is := p.means[s]
	return is
}

// meaning is that of a symbol at a place.
func (x *expander) meaning(s string, at *place) meaning {
	for p := at; p != nil; p = p.outer {
		if m, is := p.means[s]; is {
			return m
		}
	}
	if of, number, is := original(s); is {
		return x.meaning(of, x.kept[number])
	}
	return basic(s)
}

// meaningOf is that of a symbol; nothing of any other datum.
func (x *expander) meaningOf(d api.Datum, at *place) meaning {
	if d.Kind != api.DatSymbol {
		return meaning{}
	}
	return x.meaning(d.Text, at)
}

// meaningOfFirst is that of a list's first item.
func (x *expander) meaningOfFirst(d api.Datum, at *place) meaning {
	if d.Kind != api.DatList || len(d.List) == 0 {
		return meaning{}
	}
	return x.meaningOf(d.List[0], at)
}

// keep is the number by which aliases tell a place.
func (x *expander) keep(p *place) int {
	x.kept = append(x.kept, p)
	return len(x.kept) - 1
}

// bind makes a symbol a variable, and tells its new name.
func (x *expander) bind(s string, at *place) string {
	name := x.fresh(root(s))
	at.means[s] = meaning{kind: variable, name: name}
	return name
}

func (x *expander) bindAll(l []string, at *place) []string {
	var names []string
	for _, s := range l {
		names = append(names, x.bind(s, at))
	}
	return names
}

// fresh is the new name of a variable.
func (x *expander) fresh(root string) string {
	name := root + "." + strconv.Itoa(x.named)
	x.named++
	return name
}

// basic is a symbol's meaning at the base.
func basic(s string) meaning {
	switch s {
	case "quote", "lambda", "if", "set!", "begin", "define", "define-syntax", "syntax-rules", "let-syntax", "letrec-syntax", "letrec":
		return meaning{kind: specialForm, name: s}
	}
	if core.Arity(s) >= 0 {
		return meaning{kind: primitive, name: s}
	}
	return meaning{}
}
