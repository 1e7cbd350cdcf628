package flow

import (
	"math/rand"
	"scrimshaw/api"
	"scrimshaw/core"
	"scrimshaw/lift"
	"scrimshaw/model"
	"slices"
	"strconv"
	"testing"
)

// What the chapter promises, of programs that are grown: their functions hold much, call one another, and go back.

// grower grows expressions that mostly tell numbers. It has few names, so that they hide others.
type grower struct {
	*rand.Rand
	scope []variable
}

// variable is a number's, or that of a function of so many parameters.
type variable struct {
	name     string
	function bool
	wants    int
}

func (g *grower) one(in int) bool { return g.Intn(in) == 0 }

func (g *grower) pick(l ...string) string { return l[g.Intn(len(l))] }

// grown is an expression with places for continuations, and for how often they may still be gone back to.
func (g *grower) grown() api.Expr {
	g.scope = []variable{{"a", false, 0}, {"f", true, 1}}
	backs, left, first := of("(make-vector 2 (lambda (x) x))"), prim("cons", number(g.Intn(8)), number(0)), of("(lambda (b) (+ b 1))")
	return let([]string{"backs", "left", "a", "f"}, backs, left, number(3), first, g.expr(3+g.Intn(5)))
}

func (g *grower) expr(depth int) api.Expr {
	if depth <= 0 || g.one(8) {
		return g.leaf()
	}
	next := func() api.Expr { return g.expr(depth - 1) }
	switch g.Intn(16) {
	case 0, 1:
		return prim(g.pick("+", "-", "*", "quotient", "+", "-"), next(), next())
	case 2, 3:
		return kind(api.ExpIf, g.test(depth-1), next(), next())
	case 4:
		return kind(api.ExpSeq, g.effect(depth-1), next())
	case 5:
		return kind(api.ExpSeq, g.effect(depth-1), next(), next())
	case 6, 7, 8:
		return g.call(depth - 1)
	case 9:
		return prim("%callcc", g.function([]variable{{"k", true, 1}}, depth-1))
	case 10, 11:
		return g.backAgain(depth)
	case 12:
		return prim(g.pick("car", "cdr"), prim("cons", next(), next()))
	}
	return g.binding(depth)
}

// backAgain keeps a continuation, or goes back to one.
func (g *grower) backAgain(depth int) api.Expr {
	place := number(g.Intn(2))
	if g.one(2) {
		keep := kind(api.ExpSeq, prim("vector-set!", ref("backs"), place, ref("k")), g.expr(depth-1))
		return prim("%callcc", api.Expr{Kind: api.ExpLam, Names: []string{"k"}, Kids: []api.Expr{keep}})
	}
	again := kind(api.ExpSeq, of("(set-car! left (- (car left) 1))"), kind(api.ExpCall, prim("vector-ref", ref("backs"), place), g.expr(depth-1)))
	return kind(api.ExpIf, of("(< 0 (car left))"), again, g.expr(depth-1))
}

// test is a truth, mostly.
func (g *grower) test(depth int) api.Expr {
	switch g.Intn(6) {
	case 0:
		return of(g.pick("#t", "#f", "'()", "0", "'a", "#\\a"))
	case 1:
		return g.expr(depth)
	case 2:
		return prim(g.pick("integer?", "procedure?", "eof-object?"), g.expr(depth))
	case 3:
		return kind(api.ExpIf, g.test(depth-1), g.test(depth-1), g.test(depth-1))
	}
	return prim(g.pick("<", "=", "eq?"), g.expr(depth), g.expr(depth))
}

func (g *grower) leaf() api.Expr {
	if v := g.scope[g.Intn(len(g.scope))]; !v.function && !g.one(4) {
		return ref(v.name)
	}
	switch g.Intn(12) {
	case 0, 1, 2:
		return prim("read-u8")
	case 3:
		return of(g.pick("(error)", "1152921504606846975", "#t", "'n", "()", "#\\b", "(void)"))
	}
	return number(g.Intn(9) - 1)
}

func (g *grower) effect(depth int) api.Expr {
	if !g.one(3) {
		return prim("write-u8", kind(api.ExpSeq, g.leaf(), number(65+g.Intn(26))))
	}
	return g.expr(depth)
}

func (g *grower) call(depth int) api.Expr {
	v := g.scope[g.Intn(len(g.scope))]
	out := kind(api.ExpCall, ref(v.name))
	if !v.function {
		v.wants = g.Intn(4)
		out = kind(api.ExpCall, g.function(g.variables(v.wants), depth))
	}
	if g.one(60) {
		v.wants = g.Intn(7)
	}
	for range v.wants {
		out.Kids = append(out.Kids, g.expr(depth-v.wants/2))
	}
	return out
}

// variables are so many new ones.
func (g *grower) variables(n int) []variable {
	names := []string{"a", "b", "c", "d", "e", "f", "h", "i", "j"}
	var l []variable
	for _, i := range g.Perm(len(names))[:n] {
		l = append(l, variable{name: names[i]})
	}
	return l
}

func (g *grower) function(l []variable, depth int) api.Expr {
	out := api.Expr{Kind: api.ExpLam}
	for _, v := range l {
		out.Names = append(out.Names, v.name)
	}
	was := g.scope
	g.scope = g.within(l)
	out.Kids = []api.Expr{g.expr(depth)}
	g.scope = was
	return out
}

// within is what stands in a scope in which some more are bound; those that they hide are gone.
func (g *grower) within(l []variable) []variable {
	isHidden := func(outer variable) bool {
		return slices.ContainsFunc(l, func(inner variable) bool { return inner.name == outer.name })
	}
	return append(slices.DeleteFunc(slices.Clone(g.scope), isHidden), l...)
}

func (g *grower) binding(depth int) api.Expr {
	out := api.Expr{Kind: api.ExpLet}
	l := g.variables(g.Intn(4))
	if len(l) > 0 && g.one(2) {
		out.Kind = api.ExpFix
	}
	for i := range l {
		if out.Kind == api.ExpFix || g.one(6) {
			l[i].function, l[i].wants = true, g.Intn(3)
		}
	}
	was, inner := g.scope, g.within(l)
	for _, v := range l {
		out.Names = append(out.Names, v.name)
		if out.Kind == api.ExpFix {
			g.scope = inner
		}
		if v.function {
			out.Kids = append(out.Kids, g.function(g.variables(v.wants), depth-2))
		} else {
			out.Kids = append(out.Kids, g.expr(depth-1))
		}
	}
	g.scope = inner
	out.Kids = append(out.Kids, g.expr(depth-1))
	g.scope = was
	return out
}

// held is the same program, of which closures hold their names in another order, and some that nobody wants.
func (g *grower) held(l api.Lifted) api.Lifted {
	out := clone(l)
	g.holdMore(out.Funs, &out.Main, nil)
	for i := range out.Funs {
		f := &out.Funs[i]
		g.holdMore(out.Funs, &f.Body, slices.Concat(f.Params, f.Frees))
	}
	return out
}

func (g *grower) holdMore(funs []api.Fun, e *api.Expr, scope []string) {
	if e.Kind == api.ExpClo {
		f := &funs[e.Const.Int]
		for _, name := range scope {
			if g.one(4) && !slices.Contains(f.Frees, name) && !slices.Contains(f.Params, name) {
				f.Frees = append(f.Frees, name)
			}
		}
		g.Shuffle(len(f.Frees), func(i, j int) { f.Frees[i], f.Frees[j] = f.Frees[j], f.Frees[i] })
		e.Names = slices.Clone(f.Frees)
	}
	inner := slices.Concat(scope, e.Names)
	for i := range e.Kids {
		if e.Kind == api.ExpLet && i < len(e.Names) {
			g.holdMore(funs, &e.Kids[i], scope)
		} else {
			g.holdMore(funs, &e.Kids[i], inner)
		}
	}
}

// size is how many expressions there are, and how many within one another.
func size(e api.Expr) (expressions, within int) {
	for _, kid := range e.Kids {
		n, deep := size(kid)
		expressions += n
		within = max(within, deep)
	}
	return expressions + 1, within + 1
}

func TestGrown(t *testing.T) {
	for seed := range 8 {
		t.Run(strconv.Itoa(seed), func(t *testing.T) {
			t.Parallel()
			g := &grower{Rand: rand.New(rand.NewSource(int64(1600 + seed)))}
			came := map[api.Errno]int{}
			wrote, went, inVain := 0, 0, 0
			for range 300 {
				e := g.grown()
				if n, deep := size(e); core.Check(e) != api.OK || n < 20 || n > 600 || deep > 60 {
					continue
				}
				l := lifted(e)
				more := g.held(l)
				if lift.Check(more) != api.OK {
					t.Fatal(textOfProgram(more))
				}
				for _, l := range []api.Lifted{l, more} {
					c := wantFlow(t, l, "1a2b")
					g.wantHeld(t, l, c)
					g.wantOnce(t, l, "1a2b")
				}
				o := model.Run(e, "1a2b", enough)
				came[o.Err]++
				if len(o.Output) > 2 {
					wrote++
				}
				never := e
				never.Kids = slices.Clone(e.Kids)
				never.Kids[1] = of("(cons 0 0)")
				if told(model.Run(never, "1a2b", enough)) != told(o) {
					went++
				}
				if textOfProgram(l) != textOfProgram(more) {
					inVain++
				}
			}
			if came[api.OK] < 80 || came[api.ErrRunType] < 15 || came[api.ErrRunUser] < 3 || came[api.ErrRunCount] < 1 || wrote < 10 || went < 25 || inVain < 100 {
				t.Error(came, wrote, went, inVain)
			}
		})
	}
}

// wantHeld is that a function's closures hold the values of its Frees in order: the program runs as before where its Body, which makes no closures, tells one of them, and its code fetches that.
func (g *grower) wantHeld(t *testing.T, l api.Lifted, c api.Code) {
	t.Helper()
	left := 3
	for _, i := range g.Perm(len(l.Funs)) {
		f := l.Funs[i]
		if left == 0 || len(f.Frees) == 0 || makesClosure(f.Body) {
			continue
		}
		left--
		place := g.Intn(len(f.Frees))
		other := clone(l)
		other.Funs[i].Body = ref(f.Frees[place])
		was := c.Procs[i+1]
		tells := api.Block{Ins: []api.Ins{{Op: "held", Num: place}}, End: api.End{Kind: api.EndReturn}}
		c.Procs[i+1] = api.Proc{Params: was.Params, Holds: was.Holds, Regs: was.Params + 1, Blocks: []api.Block{tells}}
		wantSame(t, other, c, "1a2b")
		c.Procs[i+1] = was
	}
}

func makesClosure(e api.Expr) bool {
	return e.Kind == api.ExpClo || slices.ContainsFunc(e.Kids, makesClosure)
}

// wantOnce is that the code means the same, and has the same ends, where what is held is fetched once; and has no more instructions then.
func (g *grower) wantOnce(t *testing.T, l api.Lifted, input string) {
	t.Helper()
	var c api.Code
	for _, f := range append([]api.Fun{{Body: l.Main}}, l.Funs...) {
		first := laid(f, nil)
		often := first.often()
		again := laid(f, often)
		if len(again.often()) > 0 || instructions(again.proc) > instructions(first.proc)-len(often) {
			t.Errorf("%.2000s:\n%.2000s", textOfProgram(l), textOfCode(api.Code{Procs: []api.Proc{first.proc, again.proc}}))
		}
		c.Procs = append(c.Procs, again.proc)
	}
	wantCode(t, l, c)
	wantSame(t, l, c, input)
}

func instructions(p api.Proc) int {
	n := 0
	for _, b := range p.Blocks {
		n += len(b.Ins)
	}
	return n
}
