package heap

import (
	"iter"
	"scrimshaw/api"
	"scrimshaw/data"
)

// Tell is the datum that a value shows, and whether it can be told.
func (h *Heap) Tell(v api.Val) (api.Datum, bool) {
	if !h.has(v) {
		return api.Datum{}, false
	}
	t := teller{things: h.things}
	return t.value(v, 0)
}

// teller counts the values that were looked at, so that it ends also where things are within themselves.
type teller struct {
	things []piece
	looked int
}

// value is what one shows that is within so many others.
func (t *teller) value(v api.Val, within int) (api.Datum, bool) {
	if t.looked == api.MaxTold || within > api.MaxDeep {
		return api.Datum{}, false
	}
	t.looked++
	if v.Kind != api.ValThing {
		return shown(v), true
	}
	thing := &t.things[v.Int]
	switch thing.kind {
	case api.ThingPair:
		return t.pair(thing.first, within)
	case api.ThingVector:
		return t.vector(thing.parts(), within)
	case api.ThingString:
		return api.Datum{Kind: api.DatString, Text: textOf(thing.parts())}, true
	case api.ThingBox:
		return symbol("box"), true
	}
	return symbol("procedure"), true
}

func (t *teller) pair(parts []api.Val, within int) (api.Datum, bool) {
	first, is := t.value(parts[0], within+1)
	if !is {
		return api.Datum{}, false
	}
	second, is := t.value(parts[1], within)
	if !is {
		return api.Datum{}, false
	}
	return data.Make([]api.Datum{first}, second), true
}

func (t *teller) vector(parts iter.Seq[api.Val], within int) (api.Datum, bool) {
	out := api.Datum{Kind: api.DatVector}
	for part := range parts {
		d, is := t.value(part, within+1)
		if !is {
			return api.Datum{}, false
		}
		out.List = append(out.List, d)
	}
	return out, true
}

// shown is what a value shows that is no thing.
func shown(v api.Val) api.Datum {
	switch v.Kind {
	case api.ValBool:
		return api.Datum{Kind: api.DatBool, Int: v.Int}
	case api.ValInt:
		return api.Datum{Kind: api.DatInt, Int: v.Int}
	case api.ValChar:
		return api.Datum{Kind: api.DatChar, Int: v.Int}
	case api.ValSymbol:
		return symbol(v.Text)
	case api.ValNull:
		return api.Datum{Kind: api.DatList}
	case api.ValVoid:
		return symbol("void")
	case api.ValEof:
		return symbol("eof")
	}
	return symbol("unset")
}

func symbol(s string) api.Datum { return api.Datum{Kind: api.DatSymbol, Text: s} }

func textOf(chars iter.Seq[api.Val]) string {
	var bytes []byte
	for c := range chars {
		bytes = append(bytes, byte(c.Int))
	}
	return string(bytes)
}
