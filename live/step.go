package live

import "scrimshaw/api"

// step is what an instruction or an end does to registers: it reads some, then fills one, or none.
type step struct{ reads, fills []int }

// steps are those of a block's instructions, and that of its end.
func steps(b api.Block) []step {
	out := make([]step, 0, len(b.Ins)+1)
	for _, i := range b.Ins {
		out = append(out, ofIns(i))
	}
	return append(out, ofEnd(b.End))
}

func ofIns(i api.Ins) step {
	if i.Op == "tie" {
		return step{reads: i.Args}
	}
	return step{i.Args, []int{i.To}}
}

// ofEnd may say of To that it is filled in the block itself, since an end that fills one leads to a single block.
func ofEnd(e api.End) step {
	switch e.Kind {
	case api.EndIf, api.EndReturn, api.EndTailCC:
		return step{reads: []int{e.Reg}}
	case api.EndTail:
		return step{reads: append([]int{e.Reg}, e.Args...)}
	case api.EndCall:
		return step{append([]int{e.Reg}, e.Args...), []int{e.To}}
	case api.EndCallCC:
		return step{[]int{e.Reg}, []int{e.To}}
	}
	return step{}
}

// goBack changes what is live behind a step to what is live ahead of it.
func (s step) goBack(live set[int]) {
	live.remove(s.fills...)
	live.add(s.reads...)
}

// leads are the blocks that an end leads to.
func leads(p api.Proc, e api.End) []block {
	var out []block
	for _, n := range targets(e) {
		if isBlock(p, n) {
			out = append(out, block(n))
		}
	}
	return out
}

// targets may be numbers of no blocks.
func targets(e api.End) []int {
	switch e.Kind {
	case api.EndJump, api.EndCall, api.EndCallCC:
		return []int{e.Next}
	case api.EndIf:
		return []int{e.Next, e.Else}
	}
	return nil
}
