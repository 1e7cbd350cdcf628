package flow

import "scrimshaw/api"

// layer lays one function. A value that is wanted stands in a register of its own; these are taken and given back as on a stack.
type layer struct {
	proc  api.Proc
	at    int // the block that is being laid
	free  int // the lowest register that nobody has, nor any above it
	scope scope
	asked []int // of each place of the closure how often it was fetched to a register that nothing else asked for
}

// atEnd stands in a register's stead for a value that is the function's.
const atEnd = -1

// laid is a function whose instructions fetch what its closure holds where it is used; but what stands in the places ahead at its beginning.
func laid(f api.Fun, ahead []int) layer {
	l := layer{proc: api.Proc{Params: len(f.Params), Holds: len(f.Frees)}, scope: scope{}, asked: make([]int, len(f.Frees))}
	l.begin()
	for place, name := range f.Frees {
		l.scope.bind(name, spot{isHeld: true, num: place})
	}
	for _, name := range f.Params {
		l.scope.bind(name, spot{num: l.take()})
	}
	for _, place := range ahead {
		name, to := f.Frees[place], l.take()
		l.fetch(place, to)
		l.scope.bind(name, spot{num: to})
	}
	l.lay(f.Body, atEnd)
	return l
}

// often tells the places of the closure by which there are fewer instructions, if each is fetched once.
func (l *layer) often() []int {
	var out []int
	for place, times := range l.asked {
		if times > 1 {
			out = append(out, place)
		}
	}
	return out
}

func (l *layer) take() int {
	l.free++
	l.proc.Regs = max(l.proc.Regs, l.free)
	return l.free - 1
}

// begin begins a new block, and tells which that is.
func (l *layer) begin() int {
	l.proc.Blocks = append(l.proc.Blocks, api.Block{})
	l.at = len(l.proc.Blocks) - 1
	return l.at
}

func (l *layer) put(i api.Ins) {
	b := &l.proc.Blocks[l.at]
	b.Ins = append(b.Ins, i)
}

func (l *layer) end(block int, e api.End) { l.proc.Blocks[block].End = e }

func (l *layer) fetch(place, to int) { l.put(api.Ins{Op: "held", To: to, Num: place}) }

// lay lays what fills a register with an expression's value; or, at the end, what the function ends with.
func (l *layer) lay(e api.Expr, to int) {
	was := l.free
	isCall := e.Kind == api.ExpCall || e.Kind == api.ExpPrim && e.Name == "%callcc"
	switch {
	case e.Kind == api.ExpIf:
		l.layIf(e, to)
	case e.Kind == api.ExpSeq, e.Kind == api.ExpLet, e.Kind == api.ExpFix:
		l.layAhead(e)
		l.lay(e.Kids[len(e.Kids)-1], to)
		l.scope.leave(e.Names)
	case isCall:
		l.layCall(e, to)
	case to == atEnd:
		reg := l.value(e)
		l.end(l.at, api.End{Kind: api.EndReturn, Reg: reg})
	default:
		l.layOne(e, to)
	}
	l.free = was
}

// value is the register in which an expression's value stands. A name has one already, mostly.
func (l *layer) value(e api.Expr) int {
	if e.Kind == api.ExpRef {
		return l.named(e.Name)
	}
	to := l.take()
	l.lay(e, to)
	return to
}

func (l *layer) values(kids []api.Expr) []int {
	var out []int
	for _, kid := range kids {
		out = append(out, l.value(kid))
	}
	return out
}

func (l *layer) named(name string) int {
	s := l.scope.spot(name)
	if !s.isHeld {
		return s.num
	}
	to := l.take()
	l.fetch(s.num, to)
	l.asked[s.num]++
	return to
}

func (l *layer) allNamed(names []string) []int {
	var out []int
	for _, name := range names {
		out = append(out, l.named(name))
	}
	return out
}

// layOne is of what one instruction does, once its kids' values are there.
func (l *layer) layOne(e api.Expr, to int) {
	switch e.Kind {
	case api.ExpQuote:
		c := e.Const
		// It has no items, but the list may have room for some, which is the program's.
		c.List = nil
		l.put(api.Ins{Op: "const", To: to, Const: c})
	case api.ExpRef:
		if s := l.scope.spot(e.Name); s.isHeld {
			l.fetch(s.num, to)
		} else {
			l.put(api.Ins{Op: "move", To: to, Args: []int{s.num}})
		}
	case api.ExpClo:
		l.put(closure(e, to, l.allNamed(e.Names)))
	default:
		regs := l.values(e.Kids)
		l.put(api.Ins{Op: e.Name, To: to, Args: regs})
	}
}

// closure is the instruction that makes one. The function 0 is Main, so a Fun is the one behind its place.
func closure(e api.Expr, to int, args []int) api.Ins {
	return api.Ins{Op: "closure", To: to, Num: e.Const.Int + 1, Args: args}
}

// layIf lays two branches, which come together again where there is something behind them.
func (l *layer) layIf(e api.Expr, to int) {
	was := l.free
	test := l.value(e.Kids[0])
	l.free = was
	from := l.at
	next, nextLast := l.layBranch(e.Kids[1], to)
	other, otherLast := l.layBranch(e.Kids[2], to)
	l.end(from, api.End{Kind: api.EndIf, Reg: test, Next: next, Else: other})
	if to == atEnd {
		return
	}
	jump := api.End{Kind: api.EndJump, Next: l.begin()}
	l.end(nextLast, jump)
	l.end(otherLast, jump)
}

// layBranch tells with which blocks a branch begins and ends.
func (l *layer) layBranch(e api.Expr, to int) (int, int) {
	first := l.begin()
	l.lay(e, to)
	return first, l.at
}

// layCall is of a call that needs a frame, or, at the end, of one that needs none.
func (l *layer) layCall(e api.Expr, to int) {
	regs := l.values(e.Kids)
	end := api.End{Kind: api.EndCall, Reg: regs[0], Args: append([]int(nil), regs[1:]...)}
	if e.Kind == api.ExpPrim {
		end.Kind = api.EndCallCC
	}
	from := l.at
	if to != atEnd {
		end.To, end.Next = to, l.begin()
	} else if end.Kind == api.EndCall {
		end.Kind = api.EndTail
	} else {
		end.Kind = api.EndTailCC
	}
	l.end(from, end)
}

// layAhead lays all of an expression but its body, and binds its names.
func (l *layer) layAhead(e api.Expr) {
	kids := e.Kids[:len(e.Kids)-1]
	switch e.Kind {
	case api.ExpSeq:
		was := l.free
		for _, kid := range kids {
			l.value(kid)
			l.free = was
		}
	case api.ExpLet:
		for i, reg := range l.values(kids) {
			l.scope.bind(e.Names[i], spot{num: reg})
		}
	case api.ExpFix:
		l.layFix(e.Names, kids)
	}
}

// layFix makes closures that hold one another. In the place of one that is not made yet the first one is held, till it can be tied.
func (l *layer) layFix(names []string, clos []api.Expr) {
	first := l.free
	for _, name := range names {
		l.scope.bind(name, spot{num: l.take()})
	}
	behind := l.free
	var ties []api.Ins
	for i, clo := range clos {
		own := first + i
		regs := l.allNamed(clo.Names)
		for place, reg := range regs {
			// A register behind those of the names has what was fetched.
			if own <= reg && reg < behind {
				ties = append(ties, api.Ins{Op: "tie", Num: place, Args: []int{own, reg}})
				regs[place] = first
			}
		}
		if i == 0 && len(ties) > 0 {
			// So no register is read that nothing has filled.
			l.put(api.Ins{Op: "%unset", To: first})
		}
		l.put(closure(clo, own, regs))
		l.free = behind
	}
	for _, tie := range ties {
		l.put(tie)
	}
}
