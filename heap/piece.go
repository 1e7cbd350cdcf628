package heap

import (
	"iter"
	"scrimshaw/api"
)

// piece is a thing: it has as many parts as its size says. The last one of first stands for all behind it, too, but where another one was put: so a thing that is filled with one part takes no room for each of its places.
type piece struct {
	kind, size int
	first      []api.Val
	put        map[int]api.Val
}

// part is the one of a place, if there is such a place.
func (t *piece) part(at int) (api.Val, api.Errno) {
	if at < 0 || at >= t.size {
		return api.Val{}, api.ErrRunRange
	}
	if v, is := t.put[at]; is {
		return v, api.OK
	}
	return t.first[min(at, len(t.first)-1)], api.OK
}

// change has another part in a place from now on, if there is such a place.
func (t *piece) change(at int, v api.Val) (api.Val, api.Errno) {
	if at < 0 || at >= t.size {
		return api.Val{}, api.ErrRunRange
	}
	done := api.Val{Kind: api.ValVoid}
	if t.size == len(t.first) {
		t.first[at] = v
		return done, api.OK
	}
	if t.put == nil {
		t.put = map[int]api.Val{}
	}
	t.put[at] = v
	return done, api.OK
}

// parts are all of them, in order.
func (t *piece) parts() iter.Seq[api.Val] {
	return func(yield func(api.Val) bool) {
		for at := range t.size {
			if v, _ := t.part(at); !yield(v) {
				return
			}
		}
	}
}
