package vm

import (
	"scrimshaw/api"
	"scrimshaw/core"
	"slices"
)

// Check tells whether a code may be.
func Check(c api.Code) api.Errno {
	if isTooMuch(c) {
		return api.ErrCodeMany
	}
	if !hasBegin(c) || slices.ContainsFunc(c.Procs, hasNoHead) {
		return api.ErrCodeForm
	}
	for _, p := range c.Procs {
		if !(checker{c.Procs, p}).isRight() {
			return api.ErrCodeForm
		}
	}
	return api.OK
}

// isTooMuch looks at no more than there may be.
func isTooMuch(c api.Code) bool {
	if len(c.Procs) > api.MaxProcs {
		return true
	}
	many := 0
	for _, p := range c.Procs {
		if p.Regs > api.MaxRegs {
			return true
		}
		for _, b := range p.Blocks {
			many += 1 + len(b.Ins)
			if many > api.MaxBlocks {
				return true
			}
		}
	}
	return false
}

// hasBegin tells whether there is a function that a run may begin with.
func hasBegin(c api.Code) bool {
	return len(c.Procs) > 0 && c.Procs[0].Params == 0 && c.Procs[0].Holds == 0
}

// hasNoHead looks at a function's numbers. Those of all are looked at ahead of the instructions, since by them arguments are counted.
func hasNoHead(p api.Proc) bool {
	return !isOf(p.Params, api.MaxParams+1) || !isOf(p.Holds, api.MaxHolds+1) || p.Regs < p.Params || len(p.Blocks) == 0
}

// checker looks at one of the functions.
type checker struct {
	procs []api.Proc
	proc  api.Proc
}

func (c checker) isRight() bool {
	for _, b := range c.proc.Blocks {
		for _, i := range b.Ins {
			if !c.mayDo(i) {
				return false
			}
		}
		if !c.mayEnd(b.End) {
			return false
		}
	}
	return true
}

func (c checker) mayDo(i api.Ins) bool {
	args, to, num, constant := core.Arity(i.Op), c.isRegister(i.To), i.Num == 0, isEmpty(i.Const)
	switch i.Op {
	case "const":
		args, constant = 0, core.Check(api.Expr{Kind: api.ExpQuote, Const: i.Const}) == api.OK
	case "move":
		args = 1
	case "held":
		args, num = 0, isOf(i.Num, c.proc.Holds)
	case "closure":
		num = i.Num > 0 && i.Num < len(c.procs)
		if num {
			args = c.procs[i.Num].Holds
		}
	case "tie":
		args, to, num = 2, i.To == 0, i.Num >= 0
	case "%callcc":
		// It is what an end does.
		return false
	}
	return to && num && constant && len(i.Args) == args && c.areRegisters(i.Args)
}

// uses tells which fields there are in an end of a kind, besides its kind.
type uses struct{ reg, args, to, next, other bool }

var ends = [...]uses{
	api.EndJump:   {next: true},
	api.EndIf:     {reg: true, next: true, other: true},
	api.EndReturn: {reg: true},
	api.EndTail:   {reg: true, args: true},
	api.EndCall:   {reg: true, args: true, to: true, next: true},
	api.EndTailCC: {reg: true},
	api.EndCallCC: {reg: true, to: true, next: true},
}

func (c checker) mayEnd(e api.End) bool {
	if !isOf(e.Kind, len(ends)) {
		return false
	}
	u := ends[e.Kind]
	most := 0
	if u.args {
		most = api.MaxParams
	}
	registers, blocks := c.proc.Regs, len(c.proc.Blocks)
	return isUsed(u.reg, e.Reg, registers) && isUsed(u.to, e.To, registers) && isUsed(u.next, e.Next, blocks) && isUsed(u.other, e.Else, blocks) &&
		len(e.Args) <= most && c.areRegisters(e.Args)
}

// isUsed tells whether a field is one of so many, or, if there is none of its name, 0.
func isUsed(is bool, field, many int) bool {
	if is {
		return isOf(field, many)
	}
	return field == 0
}

func (c checker) isRegister(n int) bool { return isOf(n, c.proc.Regs) }

func (c checker) areRegisters(l []int) bool {
	for _, n := range l {
		if !c.isRegister(n) {
			return false
		}
	}
	return true
}

// isOf tells whether it is one of so many numbers from 0 on.
func isOf(n, many int) bool { return 0 <= n && n < many }

func isEmpty(d api.Datum) bool {
	return d.Kind == 0 && d.Int == 0 && d.Text == "" && len(d.List) == 0
}
