package rules

import (
	"scrimshaw/api"
	"scrimshaw/data"
)

// filler fills a template in.
type filler struct {
	worked
	mark string
	ways ways // to the variables of the rule's pattern
	laid int  // data, so far
}

// place is where a part of a template is filled in: how it stands, and what was found for the turns of dots that it is in.
type place struct {
	stand
	at found
}

// filled is a template with what was found of a pattern.
func (w worked) filled(pattern, template api.Datum, at found, mark string) (api.Datum, api.Errno) {
	all, _ := w.waysOf(pattern)
	f := filler{worked: w, mark: mark, ways: all}
	d, e := f.fill(template, place{at: at})
	if e != api.OK {
		return api.Datum{}, e
	}
	if data.Check(d) != api.OK {
		return api.Datum{}, api.ErrRulesMany
	}
	return d, api.OK
}

func (f *filler) fill(t api.Datum, p place) (api.Datum, api.Errno) {
	if f.isBound(t) {
		return f.handOn(p.at[t.Text].datum)
	}
	if inner, is := f.escaped(t); is && !p.plain {
		p.plain = true
		return f.fill(inner, p)
	}
	if e := f.lay(1); e != api.OK {
		return api.Datum{}, e
	}
	switch t.Kind {
	case api.DatSymbol:
		return api.Datum{Kind: api.DatSymbol, Text: f.mark + t.Text}, api.OK
	case api.DatList, api.DatVector:
		items, e := f.row(t.List, p)
		return api.Datum{Kind: t.Kind, List: items}, e
	case api.DatDotted:
		return f.dotted(t, p)
	}
	return data.Make(nil, t), api.OK
}

func (f *filler) dotted(t api.Datum, p place) (api.Datum, api.Errno) {
	row, last := apart(t)
	items, e := f.row(row, p)
	if e != api.OK {
		return api.Datum{}, e
	}
	tail, e := f.fill(last[0], p)
	if e != api.OK {
		return api.Datum{}, e
	}
	return data.Make(items, tail), api.OK
}

func (f *filler) row(row []api.Datum, p place) ([]api.Datum, api.Errno) {
	var out []api.Datum
	for len(row) > 0 {
		dots := f.dotsBehind(row, p.stand)
		l, e := f.item(row[0], dots, p)
		if e != api.OK {
			return nil, e
		}
		out = append(out, l...)
		row = row[1+dots:]
	}
	return out, api.OK
}

// item is what comes of an item with so many dots behind it.
func (f *filler) item(t api.Datum, dots int, p place) ([]api.Datum, api.Errno) {
	if dots == 0 {
		d, e := f.fill(t, p)
		return []api.Datum{d}, e
	}
	own := found{}
	f.take(t, p, own)
	turns, even := own.turns()
	if !even {
		return nil, api.ErrRulesUneven
	}
	var out []api.Datum
	for turn := range turns {
		inner := place{stand{p.gone + 1, p.plain}, own.turned(turn)}
		l, e := f.item(t, dots-1, inner)
		if e != api.OK {
			return nil, e
		}
		out = append(out, l...)
	}
	return out, api.OK
}

// take puts what was found for the variables that stand in a template: it is that which says how often dots stand for it, not what others matched.
func (f *filler) take(t api.Datum, p place, own found) {
	if f.isBound(t) {
		name := t.Text
		if way := f.ways[name]; p.gone < len(way) {
			name = way[p.gone]
		}
		own[name] = p.at[name]
	}
	for _, item := range t.List {
		f.take(item, p, own)
	}
}

// turns is how often what is repeated was found; and whether it is as often everywhere.
func (f found) turns() (int, bool) {
	turns := -1
	for _, m := range f {
		if !m.repeated {
			continue
		}
		if turns >= 0 && len(m.turns) != turns {
			return 0, false
		}
		turns = len(m.turns)
	}
	return turns, true
}

// turned is a copy, with one turn's in place of each that is repeated.
func (f found) turned(turn int) found {
	out := found{}
	for name, m := range f {
		if !m.repeated {
			out[name] = m
			continue
		}
		for inner, of := range m.turns[turn] {
			out[inner] = of
		}
	}
	return out
}

// handOn lays what a variable matched, as it is.
func (f *filler) handOn(d api.Datum) (api.Datum, api.Errno) {
	if e := f.lay(size(d)); e != api.OK {
		return api.Datum{}, e
	}
	return data.Make(nil, d), api.OK
}

func (f *filler) lay(n int) api.Errno {
	f.laid += n
	if f.laid > api.MaxNodes {
		return api.ErrRulesMany
	}
	return api.OK
}

// isBound tells of a template whether it is a variable of the rule's pattern.
func (f *filler) isBound(t api.Datum) bool {
	if t.Kind != api.DatSymbol {
		return false
	}
	_, is := f.ways[t.Text]
	return is
}

// size is how many data there are in one.
func size(d api.Datum) int {
	n := 1
	for _, item := range d.List {
		n += size(item)
	}
	return n
}
