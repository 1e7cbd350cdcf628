package data

import (
	"scrimshaw/api"
	"slices"
)

// Make is the datum of items with a tail behind them.
func Make(items []api.Datum, tail api.Datum) api.Datum {
	if len(items) == 0 {
		return copied(tail)
	}
	if mayBeTail(tail.Kind) {
		return api.Datum{Kind: api.DatDotted, List: copiedList(slices.Concat(items, []api.Datum{tail}))}
	}
	return api.Datum{Kind: tail.Kind, List: copiedList(slices.Concat(items, tail.List))}
}

// Items is what a datum would be made of: its items, and its tail.
func Items(d api.Datum) ([]api.Datum, api.Datum) {
	if d.Kind == api.DatList {
		return copiedList(d.List), api.Datum{Kind: api.DatList}
	}
	if d.Kind == api.DatDotted && len(d.List) > 0 {
		last := len(d.List) - 1
		return copiedList(d.List[:last]), copied(d.List[last])
	}
	return nil, copied(d)
}

// copied goes down to the last item, since an answer shares no memory with an argument.
func copied(d api.Datum) api.Datum {
	d.List = copiedList(d.List)
	return d
}

func copiedList(list []api.Datum) []api.Datum {
	if len(list) == 0 {
		return nil
	}
	out := make([]api.Datum, len(list))
	for i, d := range list {
		out[i] = copied(d)
	}
	return out
}
