package flow

import (
	"scrimshaw/api"
	"slices"
)

// A second way to tell what a code promises by its form.

// ends is how many EndTails there are, and how many EndTailCCs.
type ends struct{ tails, tailCCs int }

func (e ends) and(f ends) ends { return ends{e.tails + f.tails, e.tailCCs + f.tailCCs} }

// endsIn counts those of a function.
func endsIn(p api.Proc) ends {
	var out ends
	for _, b := range p.Blocks {
		switch b.End.Kind {
		case api.EndTail:
			out.tails++
		case api.EndTailCC:
			out.tailCCs++
		}
	}
	return out
}

// endsOf counts the calls that stand at the end of Main or a Body. All that stands at the end is laid in a row.
func endsOf(body api.Expr) ends {
	var out ends
	all := []api.Expr{body}
	for at := 0; at < len(all); at++ {
		switch e := all[at]; {
		case e.Kind == api.ExpCall:
			out.tails++
		case e.Kind == api.ExpPrim && e.Name == "%callcc":
			out.tailCCs++
		case e.Kind == api.ExpIf:
			all = append(all, e.Kids[1], e.Kids[2])
		case e.Kind == api.ExpLet || e.Kind == api.ExpFix || e.Kind == api.ExpSeq:
			all = append(all, e.Kids[len(e.Kids)-1])
		}
	}
	return out
}

// unfilled is a register that is read where it may not have been filled, or -1. What is surely filled at a block's beginning is what is so at the end of all that lead to it.
func unfilled(p api.Proc) int {
	filled := make([][]bool, len(p.Blocks))
	filled[0] = make([]bool, p.Regs)
	for reg := range p.Params {
		filled[0][reg] = true
	}
	for again := true; again; {
		again = false
		for at, b := range p.Blocks {
			if filled[at] == nil {
				continue
			}
			now := slices.Clone(filled[at])
			for _, i := range b.Ins {
				if i.Op != "tie" {
					now[i.To] = true
				}
			}
			for _, next := range nexts(b.End) {
				then := slices.Clone(now)
				if b.End.Kind == api.EndCall || b.End.Kind == api.EndCallCC {
					then[b.End.To] = true
				}
				if both := common(filled[next], then); !slices.Equal(both, filled[next]) {
					filled[next], again = both, true
				}
			}
		}
	}
	for at, b := range p.Blocks {
		if reg := unfilledIn(b, filled[at]); reg >= 0 {
			return reg
		}
	}
	return -1
}

func nexts(e api.End) []int {
	switch e.Kind {
	case api.EndJump, api.EndCall, api.EndCallCC:
		return []int{e.Next}
	case api.EndIf:
		return []int{e.Next, e.Else}
	}
	return nil
}

func common(was, now []bool) []bool {
	if was == nil {
		return now
	}
	out := slices.Clone(was)
	for i := range out {
		out[i] = out[i] && now[i]
	}
	return out
}

// unfilledIn is of a block that may be come to; all are.
func unfilledIn(b api.Block, filled []bool) int {
	if filled == nil {
		return 0
	}
	now := slices.Clone(filled)
	for _, i := range b.Ins {
		for _, reg := range i.Args {
			if !now[reg] {
				return reg
			}
		}
		if i.Op != "tie" {
			now[i.To] = true
		}
	}
	read := slices.Clone(b.End.Args)
	if b.End.Kind != api.EndJump {
		read = append(read, b.End.Reg)
	}
	for _, reg := range read {
		if !now[reg] {
			return reg
		}
	}
	return -1
}
