package model

import "scrimshaw/api"

// scope is the variables that were bound at once: what they were bound to, and what some of them are since; ValUnset, if neither tells of one. So to bind many takes no more room than to bind one.
type scope struct {
	out   *scope
	first *row
	since map[int]api.Val
}

func (s *scope) value(of place) api.Val {
	in := s.outward(of.out)
	if v, is := in.since[of.at]; is {
		return v
	}
	if of.at < in.first.count() {
		return in.first.value(of.at)
	}
	return api.Val{Kind: api.ValUnset}
}

func (s *scope) change(of place, v api.Val) {
	in := s.outward(of.out)
	if in.since == nil {
		in.since = map[int]api.Val{}
	}
	in.since[of.at] = v
}

func (s *scope) outward(by int) *scope {
	for range by {
		s = s.out
	}
	return s
}

// row is values in order, the last one and those ahead of it. It never changes, since what is still to be done with it may be done again; its jump leads to a shorter one, so that none is far.
type row struct {
	last        api.Val
	size        int
	ahead, jump *row
}

func (r *row) count() int {
	if r == nil {
		return 0
	}
	return r.size
}

// far is where a row's jump leads to.
func (r *row) far() *row {
	if r == nil {
		return nil
	}
	return r.jump
}

// with is the row with one more value. Two jumps of the same length become one, so that there are few to any place.
func (r *row) with(v api.Val) *row {
	out := &row{last: v, size: r.count() + 1, ahead: r, jump: r}
	near, far := r.far(), r.far().far()
	if r != nil && r.size-near.count() == near.count()-far.count() {
		out.jump = far
	}
	return out
}

// value is the one of a place that the row has, from 0 on.
func (r *row) value(at int) api.Val {
	for r.size > at+1 {
		if r.jump.count() > at {
			r = r.jump
		} else {
			r = r.ahead
		}
	}
	return r.last
}

// values are all of them.
func (r *row) values() []api.Val {
	l := make([]api.Val, r.count())
	for ; r != nil; r = r.ahead {
		l[r.size-1] = r.last
	}
	return l
}
