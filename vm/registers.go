package vm

import "scrimshaw/api"

// registers are values by their numbers; ValUnset, where none was put. They never change, since what keeps them may be come back to: with one more value they are others, which share nearly all with these.
type registers struct {
	arguments []api.Val
	others    *branch // those behind the arguments
}

// begun are the registers of a function that was called with these.
func begun(args []api.Val) registers {
	r := registers{arguments: make([]api.Val, len(args))}
	copy(r.arguments, args)
	return r
}

func (r registers) value(at int) api.Val {
	if at < len(r.arguments) {
		return r.arguments[at]
	}
	return r.others.get(at - len(r.arguments))
}

func (r registers) with(at int, v api.Val) registers {
	if at >= len(r.arguments) {
		return registers{r.arguments, r.others.with(at-len(r.arguments), v)}
	}
	changed := registers{begun(r.arguments).arguments, r.others}
	changed.arguments[at] = v
	return changed
}

// branch is the value of the number 0; all other numbers are dealt out to further branches by turns. So each is near, and a branch that is not there is as if it had ValUnset alone.
type branch struct {
	value api.Val
	turns [4]*branch
}

func (b *branch) get(at int) api.Val {
	for b != nil && at > 0 {
		b, at = b.turns[(at-1)%len(b.turns)], (at-1)/len(b.turns)
	}
	if b == nil {
		return api.Val{Kind: api.ValUnset}
	}
	return b.value
}

func (b *branch) with(at int, v api.Val) *branch {
	out := branch{value: b.get(0)}
	if b != nil {
		out.turns = b.turns
	}
	if at == 0 {
		out.value = v
	} else {
		further := &out.turns[(at-1)%len(out.turns)]
		*further = (*further).with((at-1)/len(out.turns), v)
	}
	return &out
}
