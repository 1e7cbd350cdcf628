package rules

import (
	"scrimshaw/api"
	"scrimshaw/data"
	"slices"
)

// ways tells of each variable of a pattern within which repeated items it stands, the outermost first: by the leads of these. There are as many as it is deep.
type ways map[string][]string

// found is what a pattern matched, or a repeated item once. What a repeated item matched stands under its lead, not under each of its variables: so it takes no more room than the data do, however many variables there are.
type found map[string]matched

// matched is the datum that a variable matched; or what a repeated item found, one turn for each datum that it matched.
type matched struct {
	datum    api.Datum
	repeated bool
	turns    []found
}

// waysOf tells also whether the datum is a pattern.
func (w worked) waysOf(pattern api.Datum) (ways, bool) {
	all := ways{}
	is := w.gather(pattern, nil, all)
	return all, is
}

func (w worked) gather(p api.Datum, way []string, all ways) bool {
	if w.isDots(p) {
		return false
	}
	if w.isVariable(p) {
		_, twice := all[p.Text]
		all[p.Text] = slices.Clone(way)
		return !twice
	}
	items, tail := apart(p)
	at := w.dotsAt(items)
	for i, item := range items {
		if i == at && i > 0 {
			continue
		}
		inner := way
		if i+1 == at {
			inner = append(slices.Clone(way), w.lead(item))
		}
		if !w.gather(item, inner, all) {
			return false
		}
	}
	return len(tail) == 0 || w.gather(tail[0], way, all)
}

// dotsAt is the place of the first dots in a row, or below 0.
func (w worked) dotsAt(row []api.Datum) int { return slices.IndexFunc(row, w.isDots) }

// lead is the first variable that stands in a pattern; empty if there is none, and then nobody asks for it.
func (w worked) lead(p api.Datum) string {
	if w.isVariable(p) {
		return p.Text
	}
	for _, item := range p.List {
		if name := w.lead(item); name != "" {
			return name
		}
	}
	return ""
}

// match puts what a pattern matches, and tells whether it does.
func (w worked) match(p, d api.Datum, f found) bool {
	if w.isVariable(p) {
		f[p.Text] = matched{datum: d}
		return true
	}
	if w.isBlank(p) {
		return true
	}
	switch p.Kind {
	case api.DatList, api.DatVector:
		return d.Kind == p.Kind && w.matchRow(p.List, d.List, f)
	case api.DatDotted:
		return w.matchDotted(p, d, f)
	}
	return data.Equal(p, d)
}

func (w worked) matchDotted(p, d api.Datum, f found) bool {
	patterns, last := apart(p)
	items, tail := data.Items(d)
	if w.dotsAt(patterns) < 0 {
		if len(items) < len(patterns) {
			return false
		}
		tail = data.Make(items[len(patterns):], tail)
		items = items[:len(patterns)]
	}
	return w.matchRow(patterns, items, f) && w.match(last[0], tail, f)
}

// matchRow matches all of a row; what is repeated takes what the others leave.
func (w worked) matchRow(patterns, row []api.Datum, f found) bool {
	at := w.dotsAt(patterns)
	if at < 0 {
		return len(row) == len(patterns) && w.matchEach(patterns, row, f)
	}
	repeated, behind := at-1, patterns[at+1:]
	left := len(row) - len(behind)
	if left < repeated {
		return false
	}
	return w.matchEach(patterns[:repeated], row, f) &&
		w.matchRepeated(patterns[repeated], row[repeated:left], f) &&
		w.matchEach(behind, row[left:], f)
}

// matchEach matches the first of a row, as many as there are patterns.
func (w worked) matchEach(patterns, row []api.Datum, f found) bool {
	for i, p := range patterns {
		if !w.match(p, row[i], f) {
			return false
		}
	}
	return true
}

func (w worked) matchRepeated(p api.Datum, row []api.Datum, f found) bool {
	turns := make([]found, len(row))
	for i, d := range row {
		turns[i] = found{}
		if !w.match(p, d, turns[i]) {
			return false
		}
	}
	f[w.lead(p)] = matched{repeated: true, turns: turns}
	return true
}
