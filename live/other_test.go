package live

import (
	"scrimshaw/api"
	"slices"
)

// The other way of the tests goes, of each place and each register, all ways from there on, in the words of the chapter.

// place is ahead of an instruction of a block, or, behind all of them, of its end.
type place struct{ block, at int }

func otherReads(p api.Proc, from place, reg int) bool {
	b := p.Blocks[from.block]
	if from.at < len(b.Ins) {
		return slices.Contains(b.Ins[from.at].Args, reg)
	}
	readsReg := []int{api.EndIf, api.EndReturn, api.EndTailCC, api.EndCallCC, api.EndTail, api.EndCall}
	readsArgs := []int{api.EndTail, api.EndCall}
	return slices.Contains(readsReg, b.End.Kind) && b.End.Reg == reg || slices.Contains(readsArgs, b.End.Kind) && slices.Contains(b.End.Args, reg)
}

func otherFills(p api.Proc, from place, reg int) bool {
	b := p.Blocks[from.block]
	if from.at < len(b.Ins) {
		return b.Ins[from.at].To == reg && b.Ins[from.at].Op != "tie"
	}
	return b.End.To == reg && slices.Contains([]int{api.EndCall, api.EndCallCC}, b.End.Kind)
}

// otherFrom are the places to which a way goes on from one.
func otherFrom(p api.Proc, from place) []place {
	b := p.Blocks[from.block]
	if from.at < len(b.Ins) {
		return []place{{from.block, from.at + 1}}
	}
	var out []place
	if e := b.End; slices.Contains([]int{api.EndJump, api.EndIf, api.EndCall, api.EndCallCC}, e.Kind) && e.Next >= 0 && e.Next <= len(p.Blocks)-1 {
		out = append(out, place{e.Next, 0})
	}
	if e := b.End; e.Kind == api.EndIf && e.Else >= 0 && e.Else <= len(p.Blocks)-1 {
		out = append(out, place{e.Else, 0})
	}
	return out
}

func otherIsLive(p api.Proc, from place, reg int) bool {
	seen := map[place]bool{}
	ways := []place{from}
	for len(ways) > 0 {
		at := ways[0]
		ways = ways[1:]
		switch {
		case seen[at]:
		case otherReads(p, at, reg):
			return true
		case !otherFills(p, at, reg):
			ways = append(ways, otherFrom(p, at)...)
		}
		seen[at] = true
	}
	return false
}

// otherRegisters are all that a function names, and some more, rising.
func otherRegisters(p api.Proc) []int {
	out := []int{-1, 0, 1, p.Regs}
	for _, b := range p.Blocks {
		out = append(append(out, b.End.Reg, b.End.To), b.End.Args...)
		for _, i := range b.Ins {
			out = append(append(out, i.To), i.Args...)
		}
	}
	slices.Sort(out)
	return slices.Compact(out)
}

func otherLive(p api.Proc, from place) []int {
	return slices.DeleteFunc(otherRegisters(p), func(reg int) bool { return !otherIsLive(p, from, reg) })
}

func otherIn(p api.Proc) [][]int {
	var out [][]int
	for n := range p.Blocks {
		out = append(out, otherLive(p, place{n, 0}))
	}
	return out
}

func otherBehind(p api.Proc, block int) [][]int {
	var out [][]int
	for at := range p.Blocks[block].Ins {
		out = append(out, otherLive(p, place{block, at + 1}))
	}
	return out
}

func otherAcross(p api.Proc, block int) []int {
	e := p.Blocks[block].End
	if e.Kind != api.EndCall && e.Kind != api.EndCallCC || e.Next < 0 || e.Next >= len(p.Blocks) {
		return nil
	}
	l := otherLive(p, place{e.Next, 0})
	return slices.DeleteFunc(l, func(reg int) bool { return reg == e.To })
}
