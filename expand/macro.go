package expand

import (
	"scrimshaw/api"
	"scrimshaw/rules"
	"slices"
)

// macro is its rules, and the place in which it was defined.
type macro struct {
	rules api.Rules
	at    *place
}

// unfolded is what a datum becomes by the use of a macro that it is, and by the one that comes of that, and so on.
func (x *expander) unfolded(d api.Datum, at *place) (api.Datum, api.Errno) {
	for {
		m := x.macroOf(d, at)
		if m == nil {
			return d, api.OK
		}
		made, wrong := x.use(m, d, at)
		if wrong != api.OK {
			return api.Datum{}, wrong
		}
		d = made
	}
}

// macroOf is the macro of which a datum is a use, or nil.
func (x *expander) macroOf(d api.Datum, at *place) *macro {
	if d.Kind != api.DatList && d.Kind != api.DatDotted || len(d.List) == 0 {
		return nil
	}
	return x.meaningOf(d.List[0], at).macro
}

func (x *expander) use(m *macro, d api.Datum, at *place) (api.Datum, api.Errno) {
	if x.ofProgram {
		if x.uses == x.fuel {
			return api.Datum{}, api.ErrExpandFuel
		}
		x.uses++
	}
	here, there := x.keep(at), x.keep(m.at)
	used := api.Datum{Kind: d.Kind, List: append([]api.Datum{d.List[0]}, changedAll(d.List[1:], x.fit(m, at, here))...)}
	return rules.Expand(m.rules, used, mark(there))
}

// fitted is what a symbol became.
type fitted struct{ symbol string }

// fit makes symbols of a macro's use such as they are to be held against the literals.
func (x *expander) fit(m *macro, at *place, here int) func(string) string {
	// Places may stand far within one another: what a symbol means is looked for once, however often it stands in a use.
	known := map[string]fitted{}
	return func(s string) string {
		f, is := known[s]
		if !is {
			f = fitted{x.fitOne(s, m, at, here)}
			known[s] = f
		}
		return f.symbol
	}
}

func (x *expander) fitOne(s string, m *macro, at *place, here int) string {
	// A literal of the same meaning can only be the symbol's root.
	literal := root(s)
	if !slices.Contains(m.rules.Literals, literal) {
		return s
	}
	if x.meaning(s, at) == x.meaning(literal, m.at) {
		return literal
	}
	if s == literal {
		return mark(here) + s
	}
	return s
}

// macro is the meaning of a symbol for which rules are given at the place in which it is defined.
func (x *expander) macro(d api.Datum, at *place) (meaning, api.Errno) {
	if x.meaningOfFirst(d, at) != basic("syntax-rules") {
		return meaning{}, api.ErrExpandForm
	}
	r, is := rulesOf(d.List[1:])
	if !is {
		return meaning{}, api.ErrExpandForm
	}
	if wrong := rules.Check(r); wrong != api.OK {
		return meaning{}, wrong
	}
	return meaning{kind: syntax, macro: &macro{rules: r, at: at}}, api.OK
}

// rulesOf are the rules of what stands behind the word syntax-rules; false if that has another shape.
func rulesOf(parts []api.Datum) (api.Rules, bool) {
	r := api.Rules{Ellipsis: dots}
	own := dots
	if len(parts) > 0 && parts[0].Kind == api.DatSymbol {
		own = parts[0].Text
		r.Ellipsis = root(own)
		parts = parts[1:]
	}
	if len(parts) == 0 {
		return api.Rules{}, false
	}
	literals, is := symbols(parts[0])
	if !is {
		return api.Rules{}, false
	}
	for _, s := range literals {
		r.Literals = append(r.Literals, root(s))
	}
	plain := func(s string) string {
		if of := root(s); of == dots || of == blank || s == own {
			return of
		}
		return s
	}
	for _, part := range parts[1:] {
		if part.Kind != api.DatList || len(part.List) != 2 {
			return api.Rules{}, false
		}
		r.Rules = append(r.Rules, api.Rule{Pattern: changed(part.List[0], plain), Template: changed(part.List[1], plain)})
	}
	return r, true
}
