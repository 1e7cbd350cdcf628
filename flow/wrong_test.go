package flow

import (
	"scrimshaw/api"
	"scrimshaw/lift"
	"slices"
	"strings"
	"testing"
)

func TestNotLifted(t *testing.T) {
	for what, l := range map[string]api.Lifted{
		"nothing":             {},
		"an if without kids":  {Main: kind(api.ExpIf)},
		"a free name":         {Main: ref("x")},
		"a function":          {Main: of("(lambda () 1)")},
		"a change":            {Main: of("(let ((x 1)) (begin 1 x))"), Funs: []api.Fun{{Body: number(1)}}},
		"no such Fun":         program("(clo 1)", "() () 1"),
		"a Fun twice":         program("(begin (clo 0) (clo 0))", "() () 1"),
		"a Fun in itself":     program("(clo 0)", "() () (clo 0)"),
		"other names":         program("(let ((x 1)) (clo 0 x))", "() () 1"),
		"a name of nobody":    program("(clo 0)", "() () x"),
		"seven parameters":    program("(clo 0)", "(a b c d e f g) () 1"),
		"callcc of two":       {Main: of("(begin 1 (%callcc 1))")},
		"a kind of no name":   {Main: kind(12)},
		"one below all kinds": {Main: kind(-1)},
	} {
		switch what {
		case "nothing":
			// It is #f.
			wantText(t, l, "0 0 1: 0=const[#f] return 0;")
			continue
		case "callcc of two":
			l.Main.Kids[1].Kids = append(l.Main.Kids[1].Kids, number(2))
		}
		if wrong := lift.Check(l); wrong != api.ErrPassForm {
			t.Error(what, wrong)
		}
		wantWrong(t, l, api.ErrPassForm, what)
	}
}

func TestTooManyExpressions(t *testing.T) {
	deep := func(n int) api.Expr {
		e := number(1)
		for range n {
			e = prim("car", e)
		}
		return e
	}
	wantFlow(t, api.Lifted{Main: deep(api.MaxWithin - 1)})
	wantWrong(t, api.Lifted{Main: deep(api.MaxWithin)}, api.ErrPassMany, "deep")
	wantWrong(t, api.Lifted{Main: deep(100000)}, api.ErrPassMany, "very deep")
	wantWrong(t, api.Lifted{Main: kind(api.ExpSeq, numbers(0, api.MaxCore)...)}, api.ErrPassMany, "many")
	// This one is named ahead of what is wrong besides.
	wantWrong(t, api.Lifted{Main: kind(api.ExpSeq, append(numbers(0, api.MaxCore), ref("x"))...)}, api.ErrPassMany, "many, one of them free")
	wantWrong(t, api.Lifted{Funs: make([]api.Fun, api.MaxCore)}, api.ErrPassMany, "many functions")
	wantWrong(t, api.Lifted{Funs: make([]api.Fun, api.MaxProcs)}, api.ErrPassForm, "functions that nobody makes")
	round := kind(api.ExpSeq, number(1), number(2))
	round.Kids[0] = round
	wantWrong(t, api.Lifted{Main: round}, api.ErrPassMany, "within itself")
}

// functions is a program of so many, all made in Main, in a let of names that each of them holds.
func functions(many int, names []string, body api.Expr) api.Lifted {
	l := api.Lifted{}
	all := kind(api.ExpSeq, number(0))
	for i := range many {
		all.Kids = append(all.Kids, clo(i, names...))
		l.Funs = append(l.Funs, api.Fun{Frees: names, Body: body})
	}
	l.Main = let(names, append(numbers(100, len(names)), all)...)
	return l
}

func TestTooManyFunctions(t *testing.T) {
	wantFlow(t, functions(api.MaxProcs-1, nil, number(1)))
	wantWrong(t, functions(api.MaxProcs, nil, number(1)), api.ErrCodeMany, "300 functions and Main")
	wantWrong(t, functions(2000, nil, number(1)), api.ErrCodeMany, "2000 functions")
}

func TestTooManyHeld(t *testing.T) {
	names := manyNames(api.MaxHolds + 1)
	most := functions(1, names[:api.MaxHolds], ref("x999"))
	most.Main.Kids[api.MaxHolds] = kind(api.ExpCall, clo(0, names[:api.MaxHolds]...))
	wantRun(t, most, "", `0 "" 1099 true`)
	wantWrong(t, functions(1, names, number(1)), api.ErrCodeMany, "1001 held values")
}

func TestTooManyRegisters(t *testing.T) {
	all := func(n int) api.Lifted {
		names := manyNames(n)
		return api.Lifted{Main: let(names, append(numbers(0, n), kind(api.ExpSeq, refs(names)...))...)}
	}
	wantRun(t, all(api.MaxRegs), "", `0 "" 1999 true`)
	wantWrong(t, all(api.MaxRegs+1), api.ErrCodeMany, "2001 names at a time")
	// A register that nobody wants any more is another one's.
	for _, l := range []api.Lifted{
		{Main: kind(api.ExpSeq, numbers(0, 4000)...)},
		{Main: kind(api.ExpSeq, slices.Repeat([]api.Expr{of("(let ((x 1) (y 2)) (cons (if x y 3) (cons (+ 4 5) y)))")}, 300)...)},
	} {
		c := wantFlow(t, l)
		if c.Procs[0].Regs > 10 {
			t.Errorf("%d registers", c.Procs[0].Regs)
		}
	}
}

func TestTooManyInstructions(t *testing.T) {
	// Each is one instruction; and a block.
	wantFlow(t, api.Lifted{Main: kind(api.ExpSeq, numbers(0, api.MaxBlocks-1)...)})
	// Each of these is four blocks or so, and what is in them.
	ifs := func(n int) api.Lifted {
		return api.Lifted{Main: kind(api.ExpSeq, slices.Repeat([]api.Expr{of("(if 1 (car 2) (cdr 3))")}, n)...)}
	}
	wantFlow(t, ifs(500))
	wantWrong(t, ifs(680), api.ErrCodeMany, "680 ifs")
}

// Nor is what is fetched for one of those that are bound to each other wanted by the next one.
func TestFewRegisters(t *testing.T) {
	names := manyNames(40)
	l := nest(1, names, number(1))
	l.Funs[0].Body = api.Expr{Kind: api.ExpFix, Names: []string{"f", "g", "h"}}
	for i := range 3 {
		l.Funs[0].Body.Kids = append(l.Funs[0].Body.Kids, clo(i+1, names...))
		l.Funs = append(l.Funs, api.Fun{Frees: names, Body: of("(+ x3 (+ x5 x3))")})
	}
	l.Funs[0].Body.Kids = append(l.Funs[0].Body.Kids, of("(cons (f) (cons (g) (h)))"))
	c := wantRun(t, l, "", `0 "" (311 311 . 311) true`)
	if regs := c.Procs[1].Regs; regs > 50 {
		t.Errorf("%d registers", regs)
	}
}

// What is fetched twice can be fetched once; what goes to where it is wanted at once is as well fetched there.
func TestOnce(t *testing.T) {
	for body, want := range map[string]string{
		"(+ x x)":                              "0 2 2: 0=held[0] 1=+[0 0] return 1;",
		"(+ x y)":                              "0 2 3: 1=held[0] 2=held[1] 0=+[1 2] return 0;",
		"(begin (x y) (x y))":                  "0 2 3: 0=held[0] 1=held[1] 2=call 0 [1] 1; tail 0 [1];",
		"(car (if y x x))":                     "0 2 3: 2=held[1] if 2 1 2; 1=held[0] jump 3; 1=held[0] jump 3; 0=car[1] return 0;",
		"(if (x y) (let ((y 1)) (x y)) (x 2))": "0 2 3: 0=held[0] 2=held[1] 1=call 0 [2] 1; if 1 2 3; 1=const[1] tail 0 [1]; 1=const[2] tail 0 [1];",
	} {
		f := program("1", "() (x y) "+body).Funs[0]
		first := laid(f, nil)
		again := laid(f, first.often())
		if got := textOfCode(api.Code{Procs: []api.Proc{again.proc}}); got != want {
			t.Errorf("%s: %s, want %s", body, got, want)
		}
	}
}

// nest is a program of so many functions within one another, each of which holds all names; the innermost one's body is told.
func nest(many int, names []string, body api.Expr) api.Lifted {
	l := api.Lifted{Main: let(names, append(numbers(100, len(names)), kind(api.ExpCall, clo(0, names...)))...)}
	for i := range many {
		f := api.Fun{Frees: names, Body: body}
		if i+1 < many {
			f.Body = kind(api.ExpCall, clo(i+1, names...))
		}
		l.Funs = append(l.Funs, f)
	}
	return l
}

// A small program has a code, also where what is held is used far more often than there may be instructions.
func TestSmall(t *testing.T) {
	names := manyNames(200)
	// In one function 90 closures are made that hold all that it holds.
	l := nest(1, names, number(1))
	all := kind(api.ExpSeq)
	for i := range 90 {
		all.Kids = append(all.Kids, clo(i+1, names...))
		l.Funs = append(l.Funs, api.Fun{Frees: names, Body: ref(names[2*i])})
	}
	all.Kids = append(all.Kids, kind(api.ExpCall, clo(91, names...)))
	l.Funs[0].Body, l.Funs = all, append(l.Funs, api.Fun{Frees: names, Body: ref("x199")})
	wantRun(t, l, "", `0 "" 299 true`)
	// The same, each in a branch.
	for range 30 {
		last := len(all.Kids) - 1
		all.Kids = append(all.Kids[:last-2], kind(api.ExpIf, slices.Clone(all.Kids[last-2:])...))
	}
	l.Funs[0].Body = kind(api.ExpSeq, append(all.Kids, of("(write-u8 65)"), ref("x7"))...)
	wantRun(t, l, "", `0 "A" 107 true`)
	// As many as there may be, each of which makes the next one.
	wantRun(t, nest(100, names[:38], ref("x37")), "", `0 "" 137 true`)
	// Bound to each other, all of them.
	for _, n := range []int{1, 2, 60} {
		fixed := api.Lifted{Main: api.Expr{Kind: api.ExpFix, Names: names[:n]}}
		for i := range n {
			fixed.Main.Kids = append(fixed.Main.Kids, clo(i, names[:n]...))
			fixed.Funs = append(fixed.Funs, api.Fun{Params: []string{"n"}, Frees: names[:n], Body: of("(if (= n 0) " + names[i] + " (" + names[(i*7+1)%n] + " (- n 1)))")})
		}
		fixed.Main.Kids = append(fixed.Main.Kids, of("(procedure? (x0 50))"))
		wantRun(t, fixed, "", `0 "" #t true`)
	}
}

// No code of such a program may be: in each of its functions 200 values are fetched, to be held by the next one.
func TestNoCode(t *testing.T) {
	wantWrong(t, nest(50, manyNames(200), ref("x199")), api.ErrCodeMany, "10000 values held")
	names := manyNames(api.MaxHolds)
	l := nest(120, names, ref("x999"))
	wantWrong(t, l, api.ErrCodeMany, "as much as may be held by each")
}

// An answer shares no memory with what was handed in, nor do two lists of it.
func TestMemory(t *testing.T) {
	l := lifted(of("(let ((x '())) (fix ((f (lambda (a b c) (lambda (d) (if (f a) (b c d x) (c))))) (g (lambda (n) (g h x n))) (h (lambda () (%callcc g)))) (cons ((f 'a 2 g) #\\b) (g x))))"))
	room := make([]api.Datum, 0, 4)
	var spread func(e *api.Expr)
	spread = func(e *api.Expr) {
		if e.Kind == api.ExpQuote {
			e.Const.List = room
		}
		for i := range e.Kids {
			spread(&e.Kids[i])
		}
	}
	spread(&l.Main)
	for i := range l.Funs {
		spread(&l.Funs[i].Body)
	}
	seen := map[any]bool{&room[:1][0]: true}
	note := func(place any) {
		if seen[place] {
			t.Fatal("shared memory")
		}
		seen[place] = true
	}
	notes := func(l []int) {
		for i := range l[:cap(l)] {
			note(&l[:cap(l)][i])
		}
	}
	for range 2 {
		c, wrong := Flow(l)
		if wrong != api.OK {
			t.Fatal(wrong)
		}
		for p := range c.Procs[:cap(c.Procs)] {
			note(&c.Procs[:cap(c.Procs)][p])
		}
		for _, p := range c.Procs {
			for b := range p.Blocks[:cap(p.Blocks)] {
				note(&p.Blocks[:cap(p.Blocks)][b])
			}
			for _, b := range p.Blocks {
				notes(b.End.Args)
				for i := range b.Ins[:cap(b.Ins)] {
					note(&b.Ins[:cap(b.Ins)][i])
				}
				for _, i := range b.Ins {
					notes(i.Args)
					for at := range i.Const.List[:cap(i.Const.List)] {
						note(&i.Const.List[:cap(i.Const.List)][at])
					}
				}
			}
		}
	}
}

// What may be handed in that is as great as may be ends soon.
func TestGreat(t *testing.T) {
	names := manyNames(2000)
	wantWrong(t, functions(1000, names, number(1)), api.ErrCodeMany, "1000 functions that hold 2000")
	fixed := api.Lifted{Main: api.Expr{Kind: api.ExpFix, Names: names}}
	for i, name := range names {
		fixed.Main.Kids = append(fixed.Main.Kids, clo(i, names...))
		fixed.Funs = append(fixed.Funs, api.Fun{Frees: names, Body: ref(name)})
	}
	fixed.Main.Kids = append(fixed.Main.Kids, number(1))
	wantWrong(t, fixed, api.ErrCodeMany, "2000 functions bound to each other")
	long := strings.Repeat("x", api.MaxName)
	wantRun(t, api.Lifted{Main: let([]string{long}, number(5), ref(long))}, "", `0 "" 5 true`)
}
