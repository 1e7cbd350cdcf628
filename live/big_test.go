package live

import (
	"fmt"
	"scrimshaw/api"
	"slices"
	"testing"
)

// to is the registers from 0 on, so many.
func to(many int) []int {
	var out []int
	for reg := range many {
		out = append(out, reg)
	}
	return out
}

// The greatest function that chapter 15 lets be, and more than that.
func TestManyBlocks(t *testing.T) {
	for _, size := range []struct{ blocks, regs int }{{4095, 2000}, {300000, 3}, {3, 300000}} {
		t.Run(fmt.Sprint(size), func(t *testing.T) {
			t.Parallel()
			wantAllLive(t, size.blocks, size.regs)
		})
	}
}

// wantAllLive is of so many blocks which all lead to the last one, where all registers are read.
func wantAllLive(t *testing.T, blocks, regs int) {
	t.Helper()
	p := proc(make([]api.Block, blocks)...)
	for n := range p.Blocks {
		p.Blocks[n].End = ifs(0, n+1, n/2)
	}
	last := blocks - 1
	p.Blocks[last] = blockOf(gives(0), do("x", 0, to(regs)...))
	in := In(p)
	if len(in) != blocks {
		t.Fatal(len(in))
	}
	for n, l := range in {
		if !slices.Equal(l, to(regs)) {
			t.Fatal(n, len(l))
		}
	}
	if l := Behind(p, last); !isSame(l, lists([]int{0})) {
		t.Error(l)
	}
	p.Blocks[1].End = calls(1, last, 0)
	if l := Across(p, 1); len(l) != regs-1 || slices.Contains(l, 1) {
		t.Error(len(l))
	}
}

func TestManyInstructions(t *testing.T) {
	const many = 2000
	var l []api.Ins
	for reg := range many {
		l = append(l, do("const", reg))
	}
	p := proc(blockOf(gives(0), append(l, do("x", 0, to(many)...))...))
	wantEmpty := In(p)
	if len(wantEmpty) != 1 || len(wantEmpty[0]) > 0 {
		t.Error(wantEmpty)
	}
	behind := Behind(p, 0)
	for at, l := range behind[:many] {
		if !slices.Equal(l, to(at+1)) {
			t.Fatal(at, len(l))
		}
	}
	if len(behind) != many+1 || !slices.Equal(behind[many], []int{0}) {
		t.Error(len(behind))
	}
}

// Blocks that all lead to one.
func TestManyToOne(t *testing.T) {
	const many = 20000
	p := proc(blockOf(tail(0, 1, 2, 3)))
	for n := range many {
		p.Blocks = append(p.Blocks, blockOf(ifs(0, 0, 0), do("const", n%5)))
	}
	for n, l := range In(p) {
		want := []int{0, 1, 2, 3}
		if n > 0 {
			want = slices.DeleteFunc(want, func(reg int) bool { return reg == (n-1)%5 })
		}
		if !slices.Equal(l, want) {
			t.Fatal(n, l)
		}
	}
}
