package live

import (
	"scrimshaw/api"
	"slices"
)

// block is a block's number; registers are plain numbers.
type block int

// wants is what each block says by itself.
type wants struct {
	asked  graph[int, block]   // of a register: the blocks that read it ahead of filling it
	filled graph[int, block]   // of a register: the blocks that fill it
	before graph[block, block] // of a block: those that lead to it
}

func wantsOf(p api.Proc) wants {
	w := wants{graph[int, block]{}, graph[int, block]{}, graph[block, block]{}}
	for n, b := range p.Blocks {
		at, asked := block(n), set[int]{}
		for _, s := range slices.Backward(steps(b)) {
			s.goBack(asked)
			for _, reg := range s.fills {
				w.filled.link(reg, at)
			}
		}
		for reg := range asked {
			w.asked.link(reg, at)
		}
		for _, next := range leads(p, b.End) {
			w.before.link(next, at)
		}
	}
	return w
}

// begins are the blocks at whose beginning a register is live, each once, in any order: those that ask for it, and those from which a way leads there that doesn't fill it.
func (w wants) begins(reg int) []block {
	var out []block
	seen, filled := set[block]{}, w.filled[reg]
	reach := func(at block) {
		if !seen.has(at) {
			seen.add(at)
			out = append(out, at)
		}
	}
	for at := range w.asked[reg] {
		reach(at)
	}
	for n := 0; n < len(out); n++ {
		for from := range w.before[out[n]] {
			if !filled.has(from) {
				reach(from)
			}
		}
	}
	return out
}
