package rules

import (
	"math"
	"scrimshaw/api"
	"slices"
	"strconv"
	"strings"
	"testing"
)

// P5.1, of Check

// names are so many, no two the same.
func names(n int) []string {
	var l []string
	for i := range n {
		l = append(l, "n"+strconv.Itoa(i))
	}
	return l
}

func symbols(n int) []api.Datum {
	var l []api.Datum
	for _, name := range names(n) {
		l = append(l, sym(name))
	}
	return l
}

func TestCheckOfHowMany(t *testing.T) {
	one := rule("(m x)", "x")
	wantCheck(t, api.Rules{Ellipsis: "..."}, api.OK)
	wantCheck(t, api.Rules{Ellipsis: "...", Literals: []string{}, Rules: []api.Rule{}}, api.OK)
	for n := range 40 {
		want := api.OK
		if n > 32 {
			want = api.ErrRulesMany
		}
		wantCheck(t, api.Rules{Ellipsis: "...", Rules: slices.Repeat([]api.Rule{one}, n)}, want)
		wantCheck(t, api.Rules{Ellipsis: "...", Literals: names(n)}, want)
		wantCheck(t, api.Rules{Ellipsis: "...", Literals: names(n), Rules: slices.Repeat([]api.Rule{one}, 32)}, want)
		wantCheck(t, api.Rules{Ellipsis: "...", Literals: names(32), Rules: slices.Repeat([]api.Rule{one}, n)}, want)
	}
	wantCheck(t, api.Rules{Ellipsis: "...", Literals: names(100000), Rules: slices.Repeat([]api.Rule{one}, 100000)}, api.ErrRulesMany)
}

func TestCheckOfTheDots(t *testing.T) {
	for _, s := range []string{"...", "..", "x", "m", "-", "+", "__", "_.", ":::", "1+", strings.Repeat("a", 64)} {
		wantCheck(t, api.Rules{Ellipsis: s}, api.OK)
		wantCheck(t, api.Rules{Ellipsis: s, Literals: []string{"_", "else"}, Rules: []api.Rule{{Pattern: list(sym("m"), sym("y"), sym(s)), Template: list(sym("y"), sym(s))}}}, api.OK)
	}
	for _, s := range []string{"", "_", ".", "5", "-5", "+5", "a b", "(", "...\n", "\xff", strings.Repeat("a", 65), strings.Repeat("a", 1<<24)} {
		wantCheck(t, api.Rules{Ellipsis: s}, api.ErrRulesForm)
		wantCheck(t, api.Rules{Ellipsis: s, Literals: []string{"else"}, Rules: []api.Rule{rule("(m x)", "x")}}, api.ErrRulesForm)
	}
}

func TestCheckOfLiterals(t *testing.T) {
	for _, l := range [][]string{nil, {}, {"a"}, {"_"}, {"_", "a"}, {"a", "A", "aa", "b"}, {"..", "....", ":::"}, {strings.Repeat("a", 64), strings.Repeat("a", 63)}} {
		wantCheck(t, api.Rules{Ellipsis: "...", Literals: l}, api.OK)
		wantCheck(t, api.Rules{Ellipsis: "...", Literals: l, Rules: []api.Rule{rule("(m x)", "x")}}, api.OK)
	}
	for _, l := range [][]string{{""}, {"5"}, {"."}, {"-1"}, {"a b"}, {"a", ""}, {"a", "b", "5"}, {strings.Repeat("a", 65)}, {strings.Repeat("a", 1<<24)},
		{"a", "a"}, {"a", "b", "a"}, {"b", "a", "a"}, {"_", "_"}, append(names(31), "n0"), append(names(31), "n30"),
		{"..."}, {"a", "..."}, {"...", "a"}} {
		wantCheck(t, api.Rules{Ellipsis: "...", Literals: l}, api.ErrRulesForm)
		wantCheck(t, api.Rules{Ellipsis: "...", Literals: l, Rules: []api.Rule{rule("(m x)", "x")}}, api.ErrRulesForm)
	}
	wantCheck(t, api.Rules{Ellipsis: ":::", Literals: []string{"..."}}, api.OK)
	wantCheck(t, api.Rules{Ellipsis: ":::", Literals: []string{":::"}}, api.ErrRulesForm)
}

func TestCheckOfPatterns(t *testing.T) {
	for _, s := range []string{"(m)", "(m x)", "(_ x)", "(else x)", "(... x)", "(...)", "(... . x)", "(... x ...)", "(x x)", "(x . x)", "(m . x)", "(m . 5)", "(m . #(x))", "(m . _)", "(m . else)", "(m x . y)", "(m x ...)", "(m x ... y)", "(m y x ...)", "(m x ... y . z)", "(m x ... . z)", "(m x ... . #())",
		"(m _ _ _)", "(m else else)", "(m _ ... _)", "(m else ...)", "(m 5 ...)", "(m () ...)", "(m (x ...) ...)", "(m (x ...) (y ...))", "(m (x ...) ... (y ...))", "(m ((x ...) ...) ...)", "(m (x ...) y ...)", "(m (a ... b) ... (c d ...))", "(m #(x ...) ...)", "(m #(x ... y))", "(m (x . y) ...)", "(m (x ... . y) ...)", "(m . #(x ...))",
		"(m #t -1 #\\a \"s\" () #() x)", "(m m)", "(m () #())", "(m .. ....)"} {
		wantCheck(t, made(s, "1"), api.OK)
	}
	for _, s := range []string{
		// no list, empty, with a first item that is no symbol
		"m", "_", "...", "5", "#t", "#\\m", "\"m\"", "()", "#()", "#(m x)", "#(m)", "(5)", "(5 x)", "(\"m\" x)", "(#t . x)", "((m) x)", "((m x))", "(() x)", "(#(m))", "((m) . x)", "(#\\m)",
		// dots first, twice, behind dots, as a tail
		"(m ...)", "(m ... x)", "(m ... . x)", "(m (... x))", "(m (...))", "(m #(...))", "(m #(... x))", "(m (... . x))", "(m (... ...))", "(m . #(... x))", "(m y (... x))", "(... ...)", "(... ... x)",
		"(m x ... ...)", "(m x ... y ...)", "(m x ... y ... z)", "(m (x ... y ...))", "(m #(x ... ...))", "(m #(x ... y ...))", "(m x ... y ... . z)", "(m x ... ... . z)", "(m (x ... ...) ...)", "(m x ... 5 ...)", "(m 5 ... 5 ...)", "(m _ ... _ ...)",
		"(m . ...)", "(m x . ...)", "(m x ... . ...)", "(m (x . ...))",
		// a variable twice
		"(m x x)", "(m x y x)", "(m x . x)", "(m (x) x)", "(m x (y (x)))", "(m (x ...) x)", "(m x ... x)", "(m (x ...) (x ...))", "(m (x x ...))", "(m (x . x))", "(m #(x x))", "(m x #(x))", "(m x ... . x)", "(m (x) . #(x))", "(m m m)", "(x y y)",
	} {
		wantCheck(t, made(s, "1"), api.ErrRulesForm)
	}
}

func TestCheckOfPatternsWithOtherDots(t *testing.T) {
	r := func(pattern string) api.Rules {
		return api.Rules{Ellipsis: "x", Literals: []string{"..."}, Rules: []api.Rule{rule(pattern, "1")}}
	}
	for _, s := range []string{"(m y x)", "(x y x)", "(m ... ...)", "(m ... x)", "(m y x ...)", "(m ... y)", "(x)"} {
		wantCheck(t, r(s), api.OK)
	}
	for _, s := range []string{"(m x)", "(m x y)", "(m y x x)", "(m y y)", "(m . x)"} {
		wantCheck(t, r(s), api.ErrRulesForm)
	}
	// What is no literal is a variable, be it as it may.
	wantCheck(t, api.Rules{Ellipsis: "x", Rules: []api.Rule{rule("(m ... ...)", "1")}}, api.ErrRulesForm)
	wantCheck(t, api.Rules{Ellipsis: "x", Rules: []api.Rule{rule("(m ... else)", "(... else)")}}, api.OK)
	wantCheck(t, api.Rules{Ellipsis: "..", Literals: []string{"else", "_"}, Rules: []api.Rule{rule("(m _ _ else else)", "(_ else)")}}, api.OK)
}

func TestCheckOfTemplates(t *testing.T) {
	ok := []string{"1", "x", "y0", "m", "_", "else", "()", "#()", "\"s\"", "(x)", "(x . x)", "(x x x)", "#(x x)", "(free x)", "(1 . x)", "#(1 (x . #(x)))",
		// a list of the dots and another one
		"(... ...)", "(... x)", "(... (... ...))", "(... (... x))", "(... (x ...))", "(... (... x y))", "(... #(... x))", "(... (x . ...))", "(... (... . x))", "(... (1 ... ...))", "(... ())", "(x (... ...))", "(x . #((... ...)))", "((... ...) . x)", "#((... x))", "((... (...)))"}
	for _, s := range ok {
		wantCheck(t, made("(m x)", s), api.OK)
	}
	for _, s := range []string{"...", "(...)", "(... x y)", "(... ... ...)", "(... 1 2)", "#(...)", "#(... x)", "#(... ...)", "(... . x)", "(... x . x)", "(... . ...)", "(x . ...)", "(x x . ...)", "(x (...))", "(x #(... x))", "((... . x) x)", "(x . #(... x))", "#((... x y))", "((...) ...)"} {
		wantCheck(t, made("(m x)", s), api.ErrRulesForm)
		wantCheck(t, made("(m (x ...) ...)", s), api.ErrRulesForm)
	}
	// Within another list the dots and another one are that too; within that, they are not.
	wantCheck(t, made("(m x ...)", "((... x) ...)"), api.OK)
	wantCheck(t, made("(m x ...)", "(... ((x) ...))"), api.ErrRulesDepth)
}

func TestCheckOfDepth(t *testing.T) {
	const pattern = "(m a (b ...) ((c ...) ...) d ... . e)"
	for _, s := range []string{"a", "(a e)", "(a . e)", "(b ...)", "(d ...)", "(b ... . e)", "#(b ...)", "(c ... ...)", "((c ...) ...)", "#(#(c ...) ...)", "(((c) ... . a) ...)", "((b c ...) ...)", "((b d) ...)", "((a b) ...)", "((a free b 1) ...)", "((b c) ... ...)", "((a b c d e) ... ...)", "(((b) (c ...)) ...)", "((b (c d) ...) ...)",
		"((... b) ...)", "((... (b)) ...)", "((... (... b)) ...)", "((... c) ... ...)", "(((... c) ...) ...)", "(((... (a b c ...)) ...) ...)", "(1 b ... 2 b ... d ... (b ...))", "((b . b) ...)", "((1 . b) ...)", "(#(1 b) ...)"} {
		wantCheck(t, made(pattern, s), api.OK)
	}
	for _, s := range []string{
		// depth is left where a variable stands
		"b", "c", "d", "(b)", "(a . d)", "(a . c)", "#(b)", "(c ...)", "((c) ...)", "((b c) ...)", "((c ...) c)", "((b ...) b)", "(a ... b)", "(... b)", "(... (b ...))", "((... (c ...)) ...)", "((... (b ...)) c)", "(b ... . d)", "((b . c) ...)", "(b ... c ... ...  b)", "(d ... ((a b) . d))",
		// dots behind what is not deep enough, or has nothing but symbols of the template's own
		"(a ...)", "(e ...)", "(1 ...)", "(free ...)", "(() ...)", "(m ...)", "(_ ...)", "(else ...)", "((a e free) ...)", "(#() ...)", "(\"s\" ...)", "((... ...) ...)", "((... a) ...)", "(b ... 1 ...)", "(a ... . e)", "#(a ...)", "((b a ...) ...)", "((b (free ...)) ...)",
		// more dots than there is depth
		"(b ... ...)", "(d ... ...)", "((b ...) ...)", "((c b ...) ...)", "(c ... ... ...)", "((c ... ...) ...)", "((c ...) ... ...)", "((b d) ... ...)", "((b c) ... ... ...)", "(((b ...) c) ... ...)", "((... b) ... ...)", "(((c ...) ...) ...)", "((c ... (b ...)) ...)", "((c ... (a b) ...) ...)",
	} {
		wantCheck(t, made(pattern, s), api.ErrRulesDepth)
	}
}

func TestCheckOfDepthInEachPlaceOfAPattern(t *testing.T) {
	for pattern, depth := range map[string]int{"(m x)": 0, "(m . x)": 0, "(x x)": 0, "(m (1 x))": 0, "(m #(x))": 0, "(m y ... x)": 0, "(m y ... . x)": 0, "(m x y ...)": 0, "(m (y ... x))": 0, "(m . #(y ... x))": 0,
		"(m x ...)": 1, "(m (x) ...)": 1, "(m (y . x) ...)": 1, "(m #(x) ...)": 1, "(m (x ...))": 1, "(m . #(x ...))": 1, "(m (y ... x) ...)": 1, "(m (x y ...) ...)": 1, "(m (y ... . x) ...)": 1, "(m (y ... . #(x ...)))": 1,
		"(m (x ...) ...)": 2, "(m #(1 (x) ... 2) ...)": 2, "(m ((y ... x)) ... 5)": 1, "(m (((x ...)) ...))": 2, "(m ((y ...) ... . #(x ...)) ...)": 2, "(m ((x ...) ...) ...)": 3} {
		for dots := range 5 {
			want := api.OK
			if dots != depth {
				want = api.ErrRulesDepth
			}
			wantCheck(t, made(pattern, "(x"+strings.Repeat(" ...", dots)+")"), want)
			wantCheck(t, made(pattern, strings.Repeat("(", dots+1)+"x"+strings.Repeat(" ...)", dots)+")"), want)
		}
	}
}

func TestCheckOfDataThatMayNotBe(t *testing.T) {
	fine := of("(m x)")
	for _, d := range odd() {
		wantCheck(t, with(d, number(1)), api.ErrRulesForm)
		wantCheck(t, with(fine, d), api.ErrRulesForm)
		wantCheck(t, with(list(sym("m"), d), number(1)), api.ErrRulesForm)
		wantCheck(t, with(fine, list(sym("x"), d)), api.ErrRulesForm)
		wantCheck(t, with(dotted(sym("m"), d), number(1)), api.ErrRulesForm)
		// Where the dots are a symbol like any other, not all is.
		wantCheck(t, with(fine, list(sym("..."), d)), api.ErrRulesForm)
	}
	wantCheck(t, with(list(sym("5"), sym("x")), number(1)), api.ErrRulesForm)
	wantCheck(t, with(list(append(row(sym("m")), symbols(4094)...)...), number(1)), api.OK)
	wantCheck(t, with(list(append(row(sym("m")), symbols(4095)...)...), number(1)), api.ErrRulesForm)
	wantCheck(t, with(list(sym("m"), nested(31, sym("x"))), nested(32, sym("x"))), api.OK)
	wantCheck(t, with(list(sym("m"), nested(32, sym("x"))), number(1)), api.ErrRulesForm)
	wantCheck(t, with(fine, nested(33, sym("x"))), api.ErrRulesForm)
	for _, kind := range []int{math.MinInt, math.MaxInt} {
		wantCheck(t, with(api.Datum{Kind: kind}, api.Datum{Kind: kind}), api.ErrRulesForm)
	}
}

func TestCheckOfTheDeepest(t *testing.T) {
	p, d := sym("x"), sym("x")
	for range 31 {
		p, d = list(p, sym("...")), list(d, sym("..."))
	}
	p = list(sym("m"), p)
	wantCheck(t, with(p, d), api.OK)
	wantCheck(t, with(p, list(append(row(sym("x")), slices.Repeat(row(sym("...")), 31)...)...)), api.OK)
	wantCheck(t, with(p, list(append(row(sym("x")), slices.Repeat(row(sym("...")), 30)...)...)), api.ErrRulesDepth)
	wantCheck(t, with(p, list(append(row(sym("x")), slices.Repeat(row(sym("...")), 32)...)...)), api.ErrRulesDepth)
	wantCheck(t, with(p, list(append(row(sym("x")), slices.Repeat(row(sym("...")), 4000)...)...)), api.ErrRulesDepth)
	wantCheck(t, with(p, list(d, sym("..."))), api.ErrRulesDepth)
}

func TestWhichErrorCheckTells(t *testing.T) {
	fine, form, formed, depth := rule("(m x)", "x"), rule("(m x x)", "x"), rule("(m x)", "(... x y)"), rule("(m x ...)", "x")
	both, dots := rule("(m x ... ...)", "x"), rule("(m x ...)", "(x (...))")
	for _, c := range []struct {
		rules []api.Rule
		want  api.Errno
	}{
		{[]api.Rule{fine, form}, api.ErrRulesForm}, {[]api.Rule{form, fine}, api.ErrRulesForm}, {[]api.Rule{fine, depth}, api.ErrRulesDepth}, {[]api.Rule{depth, fine}, api.ErrRulesDepth}, {[]api.Rule{fine, depth, fine}, api.ErrRulesDepth},
		{[]api.Rule{depth, form}, api.ErrRulesForm}, {[]api.Rule{depth, formed}, api.ErrRulesForm}, {[]api.Rule{formed, depth}, api.ErrRulesForm}, {[]api.Rule{depth, fine, depth, form}, api.ErrRulesForm}, {[]api.Rule{depth, depth}, api.ErrRulesDepth},
		{[]api.Rule{both}, api.ErrRulesForm}, {[]api.Rule{dots}, api.ErrRulesForm}, {[]api.Rule{depth, {Pattern: of("(m)"), Template: sym("5")}}, api.ErrRulesForm}, {[]api.Rule{depth, {Pattern: sym("5"), Template: of("1")}}, api.ErrRulesForm},
		{append(slices.Repeat([]api.Rule{fine}, 31), depth), api.ErrRulesDepth}, {append(slices.Repeat([]api.Rule{depth}, 31), form), api.ErrRulesForm},
		{append(slices.Repeat([]api.Rule{fine}, 32), form), api.ErrRulesMany}, {append(slices.Repeat([]api.Rule{depth}, 32), fine), api.ErrRulesMany}, {slices.Repeat([]api.Rule{form}, 33), api.ErrRulesMany},
	} {
		r := api.Rules{Ellipsis: "...", Rules: c.rules}
		wantCheck(t, r, c.want)
		named := c.want
		if named != api.ErrRulesMany {
			named = api.ErrRulesForm
		}
		wantCheck(t, api.Rules{Ellipsis: "_", Rules: c.rules}, named)
		wantCheck(t, api.Rules{Ellipsis: "...", Literals: []string{"a", "a"}, Rules: c.rules}, named)
		wantCheck(t, api.Rules{Ellipsis: "...", Literals: names(33), Rules: c.rules}, api.ErrRulesMany)
		wantCheck(t, api.Rules{Ellipsis: "", Literals: slices.Repeat([]string{""}, 33), Rules: c.rules}, api.ErrRulesMany)
		// What Check tells, Expand tells ahead of all, and nothing matches.
		if c.want != api.OK {
			wantNone(t, r, of("(m 1)"), "~", c.want)
			wantNone(t, r, sym("5"), "no name", c.want)
			wantMatch(t, r, of("x"), of("1"), false)
		}
	}
}
