package core

import (
	"math/rand"
	"scrimshaw/api"
	"scrimshaw/data"
	"slices"
	"testing"
)

// P6.1 to P6.5, of expressions that grew by chance: the same as the other way of the tests says.

type grower struct{ *rand.Rand }

func (g grower) pick(l ...string) string { return l[g.Intn(len(l))] }

func (g grower) one(n int) bool { return g.Intn(n) == 0 }

func (g grower) name() string {
	return g.pick("a", "b", "c", "x", "v.0", "v.1", "v.2", "v.4", "car", "if", "quote")
}

// names are different ones.
func (g grower) names(n int) []string {
	var l []string
	for len(l) < n {
		if name := g.name(); !slices.Contains(l, name) {
			l = append(l, name)
		}
	}
	return l
}

func (g grower) atom() api.Expr {
	if g.one(4) {
		l := someConstants()
		return quote(l[g.Intn(len(l))])
	}
	return ref(g.name())
}

func (g grower) kids(n, size int) []api.Expr {
	var l []api.Expr
	for range n {
		l = append(l, g.expr(size/max(n, 1)))
	}
	return l
}

func (g grower) functions(n, size int) []api.Expr {
	var l []api.Expr
	for range n {
		l = append(l, lam(g.names(g.Intn(4)), g.expr(size/(n+1))))
	}
	return append(l, g.expr(size/(n+1)))
}

// expr may be, and has about so many parts.
func (g grower) expr(size int) api.Expr {
	if size < 2 {
		return g.atom()
	}
	size--
	n := g.Intn(4)
	switch g.Intn(10) {
	case 0:
		return set(g.name(), g.expr(size))
	case 1:
		return cond(g.kids(3, size)...)
	case 2:
		return seq(g.kids(2+n, size)...)
	case 3:
		return lam(g.names(n), g.expr(size))
	case 4:
		return call(g.kids(1+g.Intn(7), size)...)
	case 5:
		name := g.pick("void", "car", "cons", "vector-set!", "+", "%unset")
		return prim(name, g.kids(arities[name], size)...)
	case 6, 7:
		return let(g.names(n), g.kids(n+1, size)...)
	case 8:
		return rec(g.names(n), g.kids(n+1, size)...)
	}
	return fixed(g.names(1+n), g.functions(1+n, size)...)
}

// bentExpr is the expression but for one part, which has another field.
func (g grower) bentExpr(e api.Expr) api.Expr {
	e.Kids, e.Names = slices.Clone(e.Kids), slices.Clone(e.Names)
	if len(e.Kids) > 0 && !g.one(3) {
		i := g.Intn(len(e.Kids))
		e.Kids[i] = g.bentExpr(e.Kids[i])
		return e
	}
	switch g.Intn(9) {
	case 0:
		e.Kind = g.Intn(14) - 1
	case 1:
		e.Name = g.pick("", "a", "car", "cons", "5", "a b")
	case 2:
		e.Names = append(e.Names, g.pick("a", "v.0", "", "5", "z"))
	case 3:
		e.Names = e.Names[:g.Intn(len(e.Names)+1)]
	case 4:
		e.Kids = append(e.Kids, g.expr(3))
	case 5:
		e.Kids = e.Kids[:g.Intn(len(e.Kids)+1)]
	case 6:
		e.Const = []api.Datum{{}, {Kind: api.DatList}, sym("5"), number(3), vector(), {Text: "a"}, list(number(1))}[g.Intn(7)]
	case 7:
		if len(e.Kids) > 0 {
			e.Kids[g.Intn(len(e.Kids))] = g.expr(4)
		}
	case 8:
		e.Kids = append(g.kids(1, 3), e.Kids...)
	}
	return e
}

// heavy has about as many parts, or is about as deep, as may be.
func (g grower) heavy() api.Expr {
	if g.one(2) {
		e := g.expr(20)
		for range 225 + g.Intn(30) {
			e = [](func() api.Expr){func() api.Expr { return call(e) }, func() api.Expr { return lam(g.names(1), e) }, func() api.Expr { return let(g.names(1), g.atom(), e) }, func() api.Expr { return seq(g.atom(), e) }, func() api.Expr { return rec(g.names(1), e, g.atom()) }}[g.Intn(5)]()
		}
		return e
	}
	l := g.kids(4060+g.Intn(30), 1)
	return seq(append(l, g.kids(3, 30)...)...)
}

func (g grower) grown() api.Expr {
	e := g.expr(g.Intn(30))
	if g.one(80) {
		e = g.heavy()
	}
	for range g.Intn(3) {
		e = g.bentExpr(e)
	}
	return e
}

func TestGrownExpressions(t *testing.T) {
	g := grower{rand.New(rand.NewSource(6))}
	came := map[api.Errno]int{}
	for range 6000 {
		e := g.grown()
		was := rawExpr(e)
		want := otherCheck(e)
		came[want]++
		if got := Check(e); got != want {
			t.Fatalf("Check(%.2000s): %v, want %v", was, got, want)
		}
		if want == api.OK || want == api.ErrCoreForm && isShort(e, 4000) {
			if got, want := Free(e), otherFree(e); !slices.Equal(got, want) {
				t.Fatalf("Free(%.2000s): %q, want %q", was, got, want)
			}
		}
		if got, want := Rename(e), otherRename(e); rawExpr(got) != rawExpr(want) {
			t.Fatalf("Rename(%.2000s): %.2000s, want %.2000s", was, rawExpr(got), rawExpr(want))
		}
		d, err := Data(e)
		if err != want || want != api.OK && raw(d) != raw(api.Datum{}) || want == api.OK && textOfDatum(d) != textOf(e) {
			t.Fatalf("Data(%.2000s): %.2000s, %v", was, textOfDatum(d), err)
		}
		if !Equal(e, e) || rawExpr(e) != was {
			t.Fatalf("%.2000s is another one", was)
		}
	}
	for err, fewest := range map[api.Errno]int{api.OK: 2000, api.ErrCoreForm: 2000, api.ErrCoreDeep: 5, api.ErrCoreMany: 8} {
		if came[err] < fewest {
			t.Errorf("%v came %d times", err, came[err])
		}
	}
}

// bentDatum is the datum but for one part.
func (g grower) bentDatum(d api.Datum) api.Datum {
	d.List = slices.Clone(d.List)
	if len(d.List) > 0 && !g.one(4) {
		i := g.Intn(len(d.List))
		d.List[i] = g.bentDatum(d.List[i])
		return d
	}
	switch g.Intn(8) {
	case 0:
		d.Kind = g.Intn(10) - 1
	case 1:
		d.Text = g.pick("", "a", "car", "if", "let", "lambda", "quote", "begin", "fix", "letrec", "call", "prim", "set!", "5")
	case 2:
		d.Int = g.Intn(3) - 1
	case 3:
		return sym(g.name())
	case 4:
		other, _ := Data(g.expr(4))
		return other
	case 5:
		d.List = d.List[:g.Intn(len(d.List)+1)]
	case 6:
		d.List = append(d.List, sym(g.name()))
	case 7:
		d.List = append(row(list(sym("a"), sym("b"))), d.List...)
	}
	return d
}

func TestGrownData(t *testing.T) {
	g := grower{rand.New(rand.NewSource(60))}
	came := map[api.Errno]int{}
	for range 12000 {
		e := g.expr(1 + g.Intn(15))
		if g.one(200) {
			e = g.heavy()
		}
		d, _ := Data(e)
		for range g.Intn(4) {
			d = g.bentDatum(d)
		}
		was := raw(d)
		want, err := otherMake(d)
		came[err]++
		got, gotErr := Make(d)
		if rawExpr(got) != rawExpr(want) || gotErr != err {
			t.Fatalf("Make(%.2000s): %.2000s, %v; want %.2000s, %v", was, rawExpr(got), gotErr, rawExpr(want), err)
		}
		if back, wrong := Data(got); err == api.OK && (!data.Equal(back, d) || wrong != api.OK) {
			t.Fatalf("Data of Make of %.2000s: %.2000s, %v", was, raw(back), wrong)
		}
		if raw(d) != was {
			t.Fatalf("%.2000s is another one", was)
		}
	}
	if came[api.OK] < 4000 || came[api.ErrCoreForm] < 4000 {
		t.Errorf("%v", came)
	}
}

// P6.5

// boundIn are the names that are bound in an expression, each as often as it is.
func boundIn(e api.Expr) []string {
	l := slices.Clone(e.Names)
	for _, kid := range e.Kids {
		l = append(l, boundIn(kid)...)
	}
	return l
}

func TestWhatFollowsOfRename(t *testing.T) {
	g := grower{rand.New(rand.NewSource(600))}
	for range 5000 {
		e := g.expr(g.Intn(40))
		got := Rename(e)
		bound, free := boundIn(got), Free(got)
		if !slices.Equal(free, Free(e)) || len(bound) != len(boundIn(e)) {
			t.Fatalf("Rename(%s): %s", told(e), told(got))
		}
		all := slices.Sorted(slices.Values(append(bound, free...)))
		if len(slices.Compact(slices.Clone(all))) != len(all) {
			t.Fatalf("Rename(%s) binds twice: %s", told(e), told(got))
		}
		if again := Rename(got); len(bound) == 0 && !Equal(again, e) || len(bound) > 0 && (Equal(again, got) || rawExpr(again) != rawExpr(otherRename(got))) {
			t.Fatalf("Rename(%s): %s", told(got), told(again))
		}
	}
}

func TestMakeOfDataIsTheExpression(t *testing.T) {
	g := grower{rand.New(rand.NewSource(6000))}
	for range 5000 {
		e := g.expr(g.Intn(40))
		d, err := Data(e)
		got, wrong := Make(d)
		if !Equal(got, e) || err != api.OK || wrong != api.OK {
			t.Fatalf("Make of Data of %s: %s, %v, %v", told(e), told(got), err, wrong)
		}
	}
}
