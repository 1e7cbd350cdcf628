package rules

import (
	"math/rand"
	"scrimshaw/api"
	"scrimshaw/data"
	"slices"
	"strings"
	"testing"
)

// P5.3

// unmarked takes a mark off the symbols that begin with it.
func unmarked(d api.Datum, mark string) api.Datum {
	if d.Kind == api.DatSymbol {
		d.Text = strings.TrimPrefix(d.Text, mark)
	}
	d.List = slices.Clone(d.List)
	for i := range d.List {
		d.List[i] = unmarked(d.List[i], mark)
	}
	return d
}

// symbolsOf are all the symbols of a datum.
func symbolsOf(d api.Datum) []string {
	if d.Kind == api.DatSymbol {
		return []string{d.Text}
	}
	var l []string
	for _, item := range d.List {
		l = append(l, symbolsOf(item)...)
	}
	return l
}

var someUses = [][3]string{
	{"(m x ...)", "(list x ... (y . x) ...)", "(m 1 B \"s\" (C #(D)))"},
	{"(m (x y ...) ... . z)", "((let ((x w) ...) (y ... 5) ... (... ...) else _) . z)", "(m (A B C) (#t) (D (m)) . Q)"},
	{"(m x . y)", "(x (y) (... (a ...)) . #(b))", "(m else => . #(...))"},
	{"(_ x)", "x", "(m (a b c))"},
	{"(m)", "(m x y . z)", "(m)"},
}

func TestUnlikeMarks(t *testing.T) {
	for _, c := range someUses {
		r := made(c[0], c[1])
		plain, e := Expand(r, of(c[2]), "")
		if e != api.OK {
			t.Fatalf("%v: %v", c, e)
		}
		given := symbolsOf(of(c[2]))
		for _, mark := range []string{"~", "~0~", "~12345~", "~~~~~~~~~~~~~~~~", "%"} {
			d, e := Expand(r, of(c[2]), mark)
			if e != api.OK || raw(unmarked(d, mark)) != raw(plain) {
				t.Errorf("%v, %q: %s, %v", c, mark, told(d), e)
			}
			for _, name := range symbolsOf(d) {
				if !strings.HasPrefix(name, mark) && !slices.Contains(given, name) {
					t.Errorf("%v, %q: %s", c, mark, name)
				}
			}
		}
	}
}

func TestWhatMatchedIsHandedOnAsItWas(t *testing.T) {
	for _, s := range append(slices.Clone(manyTexts), "(a ~a ~~a x y m)", "\"~\"", "~", "~5~x") {
		for _, mark := range []string{"", "~", "~5~", "x"} {
			wantMade(t, made("(m x)", "x"), list(sym("m"), of(s)), mark, of(s))
			wantMade(t, made("(m x y ...)", "#(x (x) y ...)"), list(sym("m"), of(s), of(s), of(s)), mark, vector(of(s), list(of(s)), of(s), of(s)))
			wantMade(t, made("(m . x)", "(5 . x)"), dotted(sym("m"), vector(of(s))), mark, dotted(number(5), vector(of(s))))
		}
	}
}

func TestRulesBehindOneThatMatches(t *testing.T) {
	for _, c := range someUses[:2] {
		r := made(c[0], c[1])
		want, _ := Expand(r, of(c[2]), "~")
		for _, more := range [][]string{{"(m . x)", "x"}, {c[0], "other"}, {"(m)", "1", "(m x ...)", "(x ...)"}, {"(m (x ...) (y ...))", "((x y) ...)"}} {
			behind := r
			behind.Rules = append(slices.Clone(r.Rules), made(more...).Rules...)
			wantMade(t, behind, of(c[2]), "~", want)
			ahead := r
			ahead.Rules = append(made("(m 1 2 3 4 5 6)", "1", "(m . 5)", "2").Rules, behind.Rules...)
			wantMade(t, ahead, of(c[2]), "~", want)
		}
	}
	// If what matches comes to an error, no other rule is tried.
	wantNone(t, made("(m (x ...) (y ...))", "((x y) ...)", "(m . x)", "1"), of("(m () (1))"), "~", api.ErrRulesUneven)
	// But a rule behind it that may not be is told.
	wantNone(t, made("(m . x)", "1", "(m x ...)", "x"), of("(m)"), "~", api.ErrRulesDepth)
}

// P5.1, P5.2: the same as the other way of the tests says, of rules that grew by chance.

type grower struct {
	*rand.Rand
	names  int            // of variables that were given
	depths map[string]int // of the variables of the pattern at hand
}

func (g *grower) pick(l ...string) string { return l[g.Intn(len(l))] }

func (g *grower) one(n int) bool { return g.Intn(n) == 0 }

// constant is no variable, wherever it stands.
func (g *grower) constant() api.Datum {
	return of(g.pick("0", "1", "#t", "#\\a", "\"s\"", "()", "#()", "else", "=>", "_"))
}

func (g *grower) atom() api.Datum {
	if g.one(4) {
		return of(g.pick("a", "b", "p", "q"))
	}
	return g.constant()
}

func (g *grower) variable(depth int) api.Datum {
	name := string(rune('p' + g.names%8))
	if g.names >= 8 {
		return of(g.pick("_", "else", "1"))
	}
	g.names++
	if g.one(300) {
		name = "p"
	}
	g.depths[name] = depth
	return sym(name)
}

// rowOf makes a list, a vector or a dotted datum of items.
func (g *grower) rowOf(items []api.Datum, tail func() api.Datum) api.Datum {
	switch {
	case g.one(6):
		return vector(items...)
	case g.one(3) && len(items) > 0:
		return data.Make(items, tail())
	}
	return list(items...)
}

func (g *grower) pattern(within, depth int) api.Datum {
	if within == 0 || within < 4 && g.one(3) {
		if g.one(4) {
			return g.constant()
		}
		return g.variable(depth)
	}
	var items []api.Datum
	repeated := g.Intn(3)
	for i := range g.Intn(5) {
		if i == repeated {
			items = append(items, g.pattern(within-1, depth+1), sym("..."))
		} else {
			items = append(items, g.pattern(within-1, depth))
		}
	}
	if g.one(300) {
		items = append(items, sym("..."))
	}
	return g.rowOf(items, func() api.Datum { return g.variable(depth) })
}

// instance is a datum that a pattern matches, most times.
func (g *grower) instance(p api.Datum) api.Datum {
	switch {
	case g.one(50):
		return g.atom()
	case p.Kind == api.DatSymbol && p.Text != "else" && p.Text != "=>":
		return g.datum(2)
	case p.Kind < api.DatList:
		return p
	}
	items, tail := apart(p)
	var l []api.Datum
	for i, item := range items {
		if i+1 < len(items) && items[i+1].Text == "..." {
			for range g.Intn(4) {
				l = append(l, g.instance(item))
			}
		} else if item.Text != "..." {
			l = append(l, g.instance(item))
		}
	}
	if g.one(80) {
		l = append(l, g.atom())
	}
	if len(tail) == 0 {
		return api.Datum{Kind: p.Kind, List: l}
	}
	return data.Make(l, g.instance(tail[0]))
}

func (g *grower) datum(within int) api.Datum {
	if within == 0 || g.one(2) {
		return g.atom()
	}
	var l []api.Datum
	for range g.Intn(3) {
		l = append(l, g.datum(within-1))
	}
	return g.rowOf(l, g.atom)
}

// leaf is a variable with as many dots as it needs, most times, or another datum.
func (g *grower) leaf(gone int) []api.Datum {
	if g.one(3) || len(g.depths) == 0 {
		return row(g.atom())
	}
	names := make([]string, 0, len(g.depths))
	for name := range g.depths {
		names = append(names, name)
	}
	slices.Sort(names)
	name := names[g.Intn(len(names))]
	dots := max(g.depths[name]-gone, 0)
	if g.one(200) {
		dots++
	}
	return append(row(sym(name)), slices.Repeat(row(sym("...")), dots)...)
}

// deeper are the variables, not all, that dots may go through at a place; each with the dots that it needs within these.
func (g *grower) deeper(gone int) []api.Datum {
	var l []api.Datum
	for _, name := range strings.Split("p q r s t u v w", " ") {
		if g.depths[name] > gone && g.one(2) {
			l = append(append(l, sym(name)), slices.Repeat(row(sym("...")), g.depths[name]-gone-1)...)
		}
	}
	return l
}

func (g *grower) template(within, gone int) []api.Datum {
	if within == 0 || within < 4 && g.one(3) {
		return g.leaf(gone)
	}
	if g.one(40) {
		return row(list(sym("..."), g.template(0, gone)[0]))
	}
	own := g.deeper(gone)
	inner := gone + min(len(own), 1)
	var items []api.Datum
	for range g.Intn(4) {
		items = append(items, g.template(within-1, inner)...)
	}
	items = append(items, own...)
	if g.one(300) {
		items = append(row(sym("...")), items...)
	}
	tail := func() api.Datum {
		if l := g.leaf(inner); len(l) == 1 {
			return l[0]
		}
		return g.constant()
	}
	return append(row(g.rowOf(items, tail)), slices.Repeat(row(sym("...")), inner-gone)...)
}

func (g *grower) rules() api.Rules {
	r := made()
	for range 1 + g.Intn(2) {
		g.names, g.depths = 0, map[string]int{}
		p := g.pattern(4, 0)
		r.Rules = append(r.Rules, api.Rule{Pattern: data.Make(row(sym("m")), p), Template: list(g.template(4, 0)...)})
	}
	return r
}

func TestTheSameAsTheOtherWay(t *testing.T) {
	g := &grower{Rand: rand.New(rand.NewSource(5))}
	ended := map[api.Errno]int{}
	for range 20000 {
		r := g.rules()
		wantCheck(t, r, otherCheck(r))
		use := g.instance(r.Rules[g.Intn(len(r.Rules))].Pattern)
		want, _, e := other(r, use, "~1~")
		ended[e]++
		if e == api.OK {
			wantMade(t, r, use, "~1~", want)
		} else {
			wantNone(t, r, use, "~1~", e)
		}
		for _, x := range r.Rules {
			alone := api.Rules{Ellipsis: r.Ellipsis, Literals: r.Literals, Rules: []api.Rule{x}}
			if _, _, e := other(alone, use, ""); otherCheck(r) == api.OK && (use.Kind == api.DatList || use.Kind == api.DatDotted) && len(use.List) > 0 {
				wantMatch(t, r, cut(x.Pattern), cut(use), e != api.ErrRulesNone)
			}
		}
		if t.Failed() {
			return
		}
	}
	for e, least := range map[api.Errno]int{api.OK: 8000, api.ErrRulesForm: 1000, api.ErrRulesDepth: 500, api.ErrRulesNone: 3000, api.ErrRulesUneven: 1000} {
		if ended[e] < least {
			t.Errorf("%d alone of %v", ended[e], e)
		}
	}
}
