package rules

import (
	"scrimshaw/api"
	"slices"
	"strings"
	"testing"
)

// P5.1, of Match

var manyTexts = []string{"#f", "#t", "1", "2", "#\\a", "\"a\"", "a", "else", "_", "...", "()", "(1)", "(a)", "(1 2)", "(1 . 2)", "(1 2 . 3)", "((1) 2)", "#()", "#(1)", "#(1 2)", "(1 . #(2))", "(1 2 3)"}

func TestEachPatternAgainstEachDatum(t *testing.T) {
	for _, c := range []struct {
		pattern string
		matches []string
	}{
		{"x", manyTexts}, {"_", manyTexts},
		{"else", []string{"else"}}, {"=>", nil}, {"#f", []string{"#f"}}, {"#t", []string{"#t"}}, {"1", []string{"1"}}, {"3", nil}, {"#\\a", []string{"#\\a"}}, {"#\\b", nil}, {"\"a\"", []string{"\"a\""}}, {"\"b\"", nil},
		{"()", []string{"()"}}, {"#()", []string{"#()"}},
		{"(x)", []string{"(1)", "(a)"}}, {"(_)", []string{"(1)", "(a)"}}, {"(1)", []string{"(1)"}}, {"(else)", nil}, {"(x y)", []string{"(1 2)", "((1) 2)"}}, {"(_ _)", []string{"(1 2)", "((1) 2)"}}, {"(1 y)", []string{"(1 2)"}}, {"((x) y)", []string{"((1) 2)"}}, {"((x ...) y)", []string{"((1) 2)"}},
		{"(x ...)", []string{"()", "(1)", "(a)", "(1 2)", "((1) 2)", "(1 2 3)"}}, {"(_ ...)", []string{"()", "(1)", "(a)", "(1 2)", "((1) 2)", "(1 2 3)"}}, {"(1 ...)", []string{"()", "(1)"}}, {"(x 2 ...)", []string{"(1)", "(a)", "(1 2)", "((1) 2)"}}, {"(x ... 2)", []string{"(1 2)", "((1) 2)"}},
		{"(x y ...)", []string{"(1)", "(a)", "(1 2)", "((1) 2)", "(1 2 3)"}}, {"(x y ... z)", []string{"(1 2)", "((1) 2)", "(1 2 3)"}}, {"((x) ... y)", []string{"(1)", "(a)", "((1) 2)"}}, {"(x ... y z v)", []string{"(1 2 3)"}}, {"(x y z v ...)", []string{"(1 2 3)"}},
		{"#(x)", []string{"#(1)"}}, {"#(x y)", []string{"#(1 2)"}}, {"#(x ...)", []string{"#()", "#(1)", "#(1 2)"}}, {"#(x ... 2)", []string{"#(1 2)"}}, {"#(x 2 ...)", []string{"#(1)", "#(1 2)"}},
		{"(x . y)", []string{"(1)", "(a)", "(1 2)", "(1 . 2)", "(1 2 . 3)", "((1) 2)", "(1 . #(2))", "(1 2 3)"}}, {"(_ . _)", []string{"(1)", "(a)", "(1 2)", "(1 . 2)", "(1 2 . 3)", "((1) 2)", "(1 . #(2))", "(1 2 3)"}},
		{"(x . 2)", []string{"(1 . 2)"}}, {"(x . 3)", nil}, {"(x y . 3)", []string{"(1 2 . 3)"}}, {"(x . #(y))", []string{"(1 . #(2))"}}, {"(x . #())", nil}, {"(x . else)", nil}, {"(x y . z)", []string{"(1 2)", "(1 2 . 3)", "((1) 2)", "(1 2 3)"}}, {"((x) . y)", []string{"((1) 2)"}}, {"(x y z . v)", []string{"(1 2 3)"}},
		{"(x ... . y)", manyTexts}, {"(_ ... . _)", manyTexts}, {"(x ... . 2)", []string{"2", "(1 . 2)"}}, {"(x ... . 3)", []string{"(1 2 . 3)"}}, {"(x ... . else)", []string{"else"}}, {"(x ... . #(y))", []string{"#(1)", "(1 . #(2))"}}, {"(x ... . #())", []string{"#()"}},
		{"(1 ... . y)", []string{"#f", "#t", "1", "2", "#\\a", "\"a\"", "a", "else", "_", "...", "()", "(1)", "(1 . 2)", "#()", "#(1)", "#(1 2)", "(1 . #(2))"}},
		{"(x ... y . z)", []string{"(1)", "(a)", "(1 2)", "(1 . 2)", "(1 2 . 3)", "((1) 2)", "(1 . #(2))", "(1 2 3)"}}, {"(x ... 2 . z)", []string{"(1 2)", "(1 2 . 3)", "((1) 2)"}}, {"(x y ... z . v)", []string{"(1 2)", "(1 2 . 3)", "((1) 2)", "(1 2 3)"}},
	} {
		for _, s := range manyTexts {
			wantMatch(t, made(), of(c.pattern), of(s), slices.Contains(c.matches, s))
			// Within others it is the same.
			wantMatch(t, made(), list(number(5), of(c.pattern)), list(number(5), of(s)), slices.Contains(c.matches, s))
			wantMatch(t, made(), vector(of(c.pattern), sym("...")), vector(of(s), of(s)), slices.Contains(c.matches, s))
		}
	}
}

func TestConstantsMatchTheSameAlone(t *testing.T) {
	l := append(each("#f", "#t", "0", "1", "-1", "65", "#\\A", "#\\B", "#\\x00", "\"\"", "\"a\"", "\"A\"", "\"else\"", "()", "#()"), number(api.MaxInt), number(-api.MaxInt-1))
	for i, p := range l {
		for j, d := range l {
			wantMatch(t, made(), p, d, i == j)
			wantMatch(t, made(), list(p), list(d), i == j)
			wantMatch(t, made(), dotted(sym("x"), vector(p)), dotted(d, vector(d)), i == j)
		}
	}
	// An empty list with memory is an empty list.
	none := api.Datum{Kind: api.DatList, List: make([]api.Datum, 0, 3)}
	wantMatch(t, made(), none, list(), true)
	wantMatch(t, made(), list(), none, true)
	wantMatch(t, made(), of("(x ...)"), none, true)
	wantMatch(t, made(), none, vector(), false)
}

func TestSymbolsOfPatterns(t *testing.T) {
	r := api.Rules{Ellipsis: "..", Literals: []string{"else", "_", "x", "..."}}
	for _, p := range []string{"else", "_", "x", "..."} {
		for _, d := range []string{"else", "_", "x", "...", "y", "..", "\"x\"", "(x)", "()", "1"} {
			wantMatch(t, r, of(p), of(d), p == d)
		}
	}
	for _, d := range []string{"else", "_", "x", "...", "y", "..", "\"x\"", "(x)", "()", "1"} {
		wantMatch(t, r, of("y"), of(d), true)
		wantMatch(t, r, of("Else"), of(d), true)
		// The dots are no pattern, though they are a datum.
		wantMatch(t, r, of(".."), of(d), false)
	}
	// A string is none of these, whatever its bytes.
	for _, s := range []string{"\"..\"", "\"else\"", "\"_\"", "\"y\""} {
		wantMatch(t, r, of(s), of(s), true)
		wantMatch(t, r, list(of(s), of("z")), list(of(s), number(1)), true)
		wantMatch(t, r, list(of("z"), of(s), of("y")), list(number(1), of(s), number(1)), true)
		wantMatch(t, r, of(s), number(1), false)
		wantMatch(t, r, list(of("z"), of(s)), list(number(1)), false)
		wantMatch(t, r, list(of("z"), of(s)), list(number(1), number(1)), false)
		wantMatch(t, r, of(s), sym(strings.Trim(s, "\"")), false)
	}
	// A literal may stand twice, and _ too; a variable may not.
	wantMatch(t, r, of("(x x)"), of("(x x)"), true)
	wantMatch(t, made(), of("(_ _)"), of("(1 2)"), true)
	wantMatch(t, made(), of("(x x)"), of("(1 1)"), false)
	// With the dots of these rules alone.
	wantMatch(t, r, of("(z ..)"), of("(1 2 3)"), true)
	wantMatch(t, r, of("(z ...)"), of("(1 ...)"), true)
	wantMatch(t, r, of("(z ...)"), of("(1 2)"), false)
}

func TestRepeatedItems(t *testing.T) {
	ones := func(n int) []api.Datum { return slices.Repeat(row(number(1)), n) }
	for ahead := range 3 {
		for behind := range 3 {
			var p []api.Datum
			p = append(append(append(p, symbols(ahead)...), sym("x"), sym("...")), symbols(ahead + behind)[ahead:]...)
			for n := range 7 {
				is := n >= ahead+behind
				wantMatch(t, made(), list(p...), list(ones(n)...), is)
				wantMatch(t, made(), vector(p...), vector(ones(n)...), is)
				wantMatch(t, made(), list(p...), vector(ones(n)...), false)
				wantMatch(t, made(), vector(p...), list(ones(n)...), false)
				tailed := dotted(append(slices.Clone(p), sym("y"))...)
				wantMatch(t, made(), tailed, list(ones(n)...), is)
				wantMatch(t, made(), tailed, vector(ones(n)...), ahead+behind == 0)
				if n > 0 {
					wantMatch(t, made(), tailed, dotted(append(ones(n), number(2))...), is)
					wantMatch(t, made(), list(p...), dotted(append(ones(n), number(2))...), false)
					wantMatch(t, made(), vector(p...), dotted(append(ones(n), number(2))...), false)
				}
			}
		}
	}
}

func TestEachOfWhatIsRepeatedMustMatch(t *testing.T) {
	for _, c := range []struct {
		pattern string
		is, not []string
	}{
		{"((x y) ...)", []string{"()", "((1 2))", "((1 2) (3 4))"}, []string{"(1)", "((1 2) 3)", "((1) (1 2))", "((1 2) (1 2) (1 2 3))", "((1 2) . 3)", "((1 2) ())"}},
		{"((x ...) ...)", []string{"()", "(())", "(() (1) (1 2))"}, []string{"(1)", "(() 1)", "(() #())", "(() (1 . 2))"}},
		{"((x ... . y) ...)", []string{"()", "(1)", "(() 1 (1) (1 . 2))"}, []string{"1", "(1 . 2)"}},
		{"(((x ...) ...) ...)", []string{"()", "(())", "((()) () (() (1)))"}, []string{"((1))", "(() ((1) 2))"}},
		{"(#(x ...) ... (y ...) z)", []string{"(() 1)", "(#() #(1 2) (1) #())"}, []string{"(1)", "(1 2)", "(() () 1)", "(#() 1)", "(#() 1 2)"}},
		{"((x . #(y ...)) ... . 5)", []string{"5", "((1 . #()) . 5)", "((1 . #(2)) ((1) . #(2 3)) . 5)"}, []string{"()", "((1 . #()))", "((1) . 5)"}},
		{"((else x) ... (=> y))", []string{"((=> 1))", "((else 1) (else 2) (=> 3))"}, []string{"()", "((else 1))", "((=> 1) (=> 2))", "((else 1) (else) (=> 3))"}},
	} {
		for _, s := range c.is {
			wantMatch(t, made(), of(c.pattern), of(s), true)
		}
		for _, s := range c.not {
			wantMatch(t, made(), of(c.pattern), of(s), false)
		}
	}
}

func TestPatternsThatAreNone(t *testing.T) {
	for _, s := range []string{"...", "(...)", "(... x)", "(x ... ...)", "(x ... y ...)", "(x . ...)", "(x x)", "(x (x))", "(x . x)", "(x ... x)", "(x ... . x)", "#(... x)", "#(x x)", "(y (... x))", "(... ...)", "(... . x)"} {
		for _, d := range slices.Concat(manyTexts, []string{"((1))", "(1 (1))", "(1 1)", "#(1 1)", "(1 . 1)", "((2 1))"}) {
			wantMatch(t, made(), of(s), of(d), false)
			wantMatch(t, made(), list(of(s), sym("...")), list(of(d)), false)
			wantMatch(t, made(), list(of(s), sym("...")), list(), false)
		}
	}
	// It is not a rule's pattern: its first item is looked at as any other.
	wantMatch(t, made(), of("(m m)"), of("(1 2)"), false)
	wantMatch(t, made(), of("(else x)"), of("(m 1)"), false)
	wantMatch(t, made(), of("(m x)"), of("(1)"), false)
	wantMatch(t, made(), of("(1 x)"), of("(1 2)"), true)
	for _, p := range odd() {
		wantMatch(t, made(), p, p, false)
		wantMatch(t, made(), p, number(1), false)
		wantMatch(t, made(), list(p, sym("...")), list(), false)
		wantMatch(t, made(), list(p, sym("...")), list(number(1)), false)
	}
}

func TestDataThatMayNotBeMatchNothing(t *testing.T) {
	for _, d := range odd() {
		for _, p := range each("x", "_", "1", "(x ...)", "(x ... . y)", "(x . y)", "(_ _)", "#(x ...)") {
			wantMatch(t, made(), p, d, false)
			wantMatch(t, made(), p, list(number(1), d), false)
			wantMatch(t, made(), p, vector(d), false)
		}
	}
	wantMatch(t, made(), sym("x"), nested(32, number(1)), true)
	wantMatch(t, made(), nested(32, sym("x")), nested(32, number(1)), true)
	wantMatch(t, made(), of("(x ...)"), list(slices.Repeat(row(number(1)), 4095)...), true)
	wantMatch(t, made(), list(symbols(4095)...), list(slices.Repeat(row(number(1)), 4095)...), true)
}

func TestMatchTakesRulesThatMayBe(t *testing.T) {
	x, one := sym("x"), number(1)
	wantMatch(t, api.Rules{Ellipsis: "..."}, x, one, true)
	wantMatch(t, made("(m x ...)", "(x ...)"), x, one, true)
	wantMatch(t, api.Rules{}, x, one, false)
	wantMatch(t, api.Rules{Ellipsis: "_"}, x, one, false)
	wantMatch(t, api.Rules{Ellipsis: "...", Literals: []string{"a", "a"}}, x, one, false)
	wantMatch(t, api.Rules{Ellipsis: "...", Literals: names(33)}, x, one, false)
	wantMatch(t, made("(m x x)", "x"), x, one, false)
	wantMatch(t, made("(m x ...)", "x"), x, one, false)
	wantMatch(t, api.Rules{Ellipsis: "...", Rules: slices.Repeat([]api.Rule{rule("(m)", "1")}, 33)}, x, one, false)
}
