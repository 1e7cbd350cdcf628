package rules

import "scrimshaw/api"

// stand is how a part of a template stands in it: how many dots were gone through on the way to it, and whether the dots are a symbol like any other there.
type stand struct {
	gone  int
	plain bool
}

// escaped is what stands behind the dots in a list of these and another datum, if a template is such a list.
func (w worked) escaped(t api.Datum) (api.Datum, bool) {
	if t.Kind != api.DatList || len(t.List) != 2 || !w.isDots(t.List[0]) {
		return api.Datum{}, false
	}
	return t.List[1], true
}

// dotsBehind is how many dots stand right behind the first item of a row.
func (w worked) dotsBehind(row []api.Datum, s stand) int {
	n := 0
	for !s.plain && n+1 < len(row) && w.isDots(row[n+1]) {
		n++
	}
	return n
}

func (w worked) isTemplate(t api.Datum) bool {
	if w.isDots(t) {
		return false
	}
	if _, is := w.escaped(t); is {
		return true
	}
	items, tail := apart(t)
	if len(items) > 0 && w.isDots(items[0]) {
		return false
	}
	for _, item := range items {
		if !w.isDots(item) && !w.isTemplate(item) {
			return false
		}
	}
	return len(tail) == 0 || w.isTemplate(tail[0])
}

// isDeepEnough tells of a template whether all its dots have a variable to go through, and nothing is left of a variable's depth where it stands.
func (w worked) isDeepEnough(t api.Datum, all ways, s stand) bool {
	if t.Kind == api.DatSymbol {
		return len(all[t.Text]) <= s.gone
	}
	if inner, is := w.escaped(t); is && !s.plain {
		return w.isDeepEnough(inner, all, stand{s.gone, true})
	}
	items, tail := apart(t)
	for len(items) > 0 {
		dots := w.dotsBehind(items, s)
		gone := s.gone + dots
		if dots > 0 && deepest(items[0], all) < gone || !w.isDeepEnough(items[0], all, stand{gone, s.plain}) {
			return false
		}
		items = items[1+dots:]
	}
	return len(tail) == 0 || w.isDeepEnough(tail[0], all, s)
}

// deepest is the depth of the deepest variable that stands in a template.
func deepest(t api.Datum, all ways) int {
	if t.Kind == api.DatSymbol {
		return len(all[t.Text])
	}
	depth := 0
	for _, item := range t.List {
		depth = max(depth, deepest(item, all))
	}
	return depth
}
