package model

import (
	"math/rand"
	"scrimshaw/api"
	"scrimshaw/core"
	"strconv"
	"strings"
	"testing"
)

// What the chapter promises, and what follows from it (P9.2), held against the other way on what is grown.

// sort is what an expression's value is, if all goes well.
type sort int

const (
	aNumber sort = iota
	aTruth
	aValue // any
	noArgs // a function without parameters, and so on; they tell numbers
	oneArg
	twoArgs
)

type variable struct {
	name string
	sort sort
}

type grower struct {
	*rand.Rand
	scope []variable
}

func (g *grower) one(in int) bool { return g.Intn(in) == 0 }

// grown is a program: `left` and `back` are there for continuations that are gone back to, a few times.
func (g *grower) grown() api.Expr {
	g.scope = []variable{{"left", aNumber}, {"back", oneArg}}
	e := g.expr(aNumber+sort(g.Intn(3)), 6+g.Intn(4))
	return binding(api.ExpLet, names("left", "back"), number(g.Intn(6)), lam(names("x"), ref("x")), e)
}

func (g *grower) expr(s sort, depth int) api.Expr {
	if g.one(150) {
		s = sort(g.Intn(6))
	}
	if depth <= 0 {
		return g.leaf(s)
	}
	switch n := g.Intn(20); {
	case n < 2:
		return g.leaf(s)
	case n < 4:
		return cond(g.expr(aTruth, depth-1), g.expr(s, depth-1), g.expr(s, depth-1))
	case n < 6:
		return g.seq(s, depth)
	case n < 9:
		return g.binding(s, depth)
	case n < 10 && s < noArgs:
		return g.again(s, depth)
	case n < 11:
		return prim("%callcc", g.function([]variable{{"k", oneArg}}, s, depth-1))
	}
	return g.own(s, depth)
}

// own is an expression such as there is of this sort alone.
func (g *grower) own(s sort, depth int) api.Expr {
	switch {
	case s >= noArgs:
		return g.function(g.variables(int(s-noArgs)), aNumber, depth-1)
	case g.one(2):
		return g.call(depth)
	case s == aTruth:
		p := []string{"<", "=", "eq?"}[g.Intn(3)]
		return prim(p, g.expr(aNumber, depth-1), g.expr(aNumber, depth-1))
	case s == aValue:
		return prim("cons", g.expr(sort(g.Intn(3)), depth-1), g.expr(sort(g.Intn(6)), depth-1))
	}
	p := []string{"+", "-", "*", "+", "quotient"}[g.Intn(5)]
	if p == "quotient" && !g.one(4) {
		p = "remainder"
		return prim(p, g.expr(aNumber, depth-1), number(1+g.Intn(9)))
	}
	return prim(p, g.expr(aNumber, depth-1), g.expr(aNumber, depth-1))
}

// again goes back to the continuation that was kept last, or keeps one.
func (g *grower) again(s sort, depth int) api.Expr {
	if g.one(2) {
		return prim("%callcc", lam(names("k"), seq(set("back", ref("k")), g.expr(s, depth-1))))
	}
	return cond(prim("<", number(0), ref("left")), seq(set("left", prim("-", ref("left"), number(1))), call(ref("back"), g.expr(s, depth-1))), g.expr(s, depth-1))
}

func (g *grower) seq(s sort, depth int) api.Expr {
	var l []api.Expr
	for range 1 + g.Intn(3) {
		l = append(l, g.effect(depth-1))
	}
	return seq(append(l, g.expr(s, depth-1))...)
}

func (g *grower) effect(depth int) api.Expr {
	switch g.Intn(6) {
	case 0, 1:
		return prim("write-u8", number(65+g.Intn(26)))
	case 2:
		return prim("%wind!", prim("cons", g.expr(aNumber, depth-1), prim("%winders")))
	case 3:
		return g.expr(aNumber+sort(g.Intn(2)), depth-1)
	}
	v := g.scope[g.Intn(len(g.scope))]
	if v.name == "left" || v.name == "back" {
		return prim("write-u8", g.expr(aNumber, depth-1))
	}
	return set(v.name, g.expr(v.sort, depth-1))
}

// variables are so many new ones; their names are few, so that they hide others.
func (g *grower) variables(n int) []variable {
	var l []variable
	for _, i := range g.Perm(5)[:n] {
		l = append(l, variable{"abcde"[i : i+1], sort(g.Intn(2)) * aNumber})
	}
	return l
}

func (g *grower) function(l []variable, s sort, depth int) api.Expr {
	was := g.scope
	g.scope = append(g.scope[:len(g.scope):len(g.scope)], l...)
	body := g.expr(s, depth)
	g.scope = was
	return lam(namesOf(l), body)
}

func namesOf(l []variable) []string {
	var out []string
	for _, v := range l {
		out = append(out, v.name)
	}
	return out
}

// call is of a function that there is, or of a new one; mostly with as many as it wants.
func (g *grower) call(depth int) api.Expr {
	var f api.Expr
	wants := g.Intn(3)
	for range 6 {
		if v := g.scope[g.Intn(len(g.scope))]; v.sort >= noArgs {
			f, wants = ref(v.name), int(v.sort-noArgs)
		}
	}
	if f.Name == "" {
		f = g.expr(noArgs+sort(wants), depth-1)
	}
	if g.one(60) {
		wants = g.Intn(4)
	}
	l := kids(f)
	for range wants {
		l = append(l, g.expr(aNumber, depth-1))
	}
	return call(l...)
}

func (g *grower) binding(s sort, depth int) api.Expr {
	kind := api.ExpLet + g.Intn(3)
	l := g.variables(1 + g.Intn(3))
	for i := range l {
		l[i].sort = sort(g.Intn(6))
		if kind == api.ExpFix {
			l[i].sort = noArgs + sort(g.Intn(3))
		}
	}
	was := g.scope
	inner := append(g.scope[:len(g.scope):len(g.scope)], l...)
	var all []api.Expr
	for _, v := range l {
		g.scope = inner
		switch {
		case kind == api.ExpLet:
			g.scope = was
			all = append(all, g.expr(v.sort, depth-1))
		case v.sort >= noArgs:
			all = append(all, g.recursive(v, depth))
		default:
			all = append(all, g.expr(v.sort, depth-1))
		}
	}
	g.scope = inner
	all = append(all, g.expr(s, depth-1))
	g.scope = was
	return binding(kind, namesOf(l), all...)
}

// recursive is a function that may call itself, and then does so with a lower number, mostly.
func (g *grower) recursive(v variable, depth int) api.Expr {
	f := g.function(g.variables(int(v.sort-noArgs)), aNumber, depth-1)
	if v.sort == noArgs || f.Names[0] == v.name || g.one(2) {
		return f
	}
	with := kids(ref(v.name), prim("-", ref(f.Names[0]), number(1)))
	if v.sort == twoArgs {
		with = append(with, ref(f.Names[1]))
		if f.Names[1] == v.name {
			return f
		}
	}
	next := call(with...)
	if g.one(2) {
		next = prim("+", number(1), next)
	}
	f.Kids[0] = cond(prim("<", ref(f.Names[0]), number(1)), f.Kids[0], next)
	return f
}

func (g *grower) leaf(s sort) api.Expr {
	for range 4 {
		if v := g.scope[g.Intn(len(g.scope))]; v.sort == s || s == aValue {
			return ref(v.name)
		}
	}
	switch s {
	case aNumber:
		if g.one(8) {
			return prim("read-u8")
		}
		return number(g.Intn(12) - 1)
	case aTruth:
		return quote(api.Datum{Kind: api.DatBool, Int: g.Intn(2)})
	case aValue:
		if g.one(3) {
			return prim("%winders")
		}
		return quote(datum([]string{"()", "a", "#\\b", "#t", "7"}[g.Intn(5)]))
	}
	return lam(namesOf(g.variables(int(s-noArgs))), number(g.Intn(9)))
}

func TestGrown(t *testing.T) {
	for seed := range 8 {
		t.Run(strconv.Itoa(seed), func(t *testing.T) {
			t.Parallel()
			g := &grower{Rand: rand.New(rand.NewSource(int64(900 + seed)))}
			came := map[api.Errno]int{}
			wrote, went := 0, 0
			for range 250 {
				e := g.grown()
				if core.Check(e) == api.ErrCoreMany || core.Check(e) == api.ErrCoreDeep {
					continue
				}
				o := wantAlike(t, e, "12a", 3000)
				came[o.Err]++
				if o.Output != "" {
					wrote++
				}
				if o.Steps > 100 {
					went++
				}
				g.wantFollows(t, e, "12a", 3000, o)
			}
			for _, wrong := range []api.Errno{api.ErrRunType, api.ErrRunProc, api.ErrRunCount, api.ErrRunSteps, api.ErrRunZero} {
				if came[wrong] == 0 {
					t.Error("never came:", wrong)
				}
			}
			if came[api.OK] < 80 || wrote < 80 || went < 40 {
				t.Error(came, wrote, went)
			}
		})
	}
}

// wantAlike holds a run against the other way.
func wantAlike(t *testing.T, e api.Expr, input string, steps int) api.Outcome {
	t.Helper()
	was := rawExpr(e)
	o, want := Run(e, input, steps), otherRun(e, input, steps)
	if told(o) != told(want) || rawExpr(e) != was {
		t.Fatalf("Run(%s, %q, %d): %s; want %s", textOf(e), input, steps, told(o), told(want))
	}
	return o
}

// wantFollows is P9.2 of a run: with other numbers of steps, and with other names.
func (g *grower) wantFollows(t *testing.T, e api.Expr, input string, steps int, o api.Outcome) {
	t.Helper()
	if got := Run(core.Rename(e), input, steps); told(got) != told(o) {
		t.Fatalf("%s: %s; with other names %s", textOf(e), told(o), told(got))
	}
	if o.Err != api.ErrRunSteps {
		for _, n := range []int{o.Steps, o.Steps + 1, steps + g.Intn(1000), api.MaxSteps} {
			if got := Run(e, input, n); told(got) != told(o) {
				t.Fatalf("%s: %s; with %d steps %s", textOf(e), told(o), n, told(got))
			}
		}
	}
	for _, n := range []int{0, o.Steps - 1, g.Intn(o.Steps), g.Intn(o.Steps)} {
		got := Run(e, input, n)
		if want := outcome(api.ErrRunSteps, "", got.Output, n); told(got) != told(want) || !strings.HasPrefix(o.Output, got.Output) {
			t.Fatalf("%s: %s; with %d steps %s", textOf(e), told(o), n, told(got))
		}
	}
}
