package rules

import (
	"math"
	"scrimshaw/api"
	"slices"
	"strings"
	"testing"
)

// P5.2

func TestExamples(t *testing.T) {
	for _, c := range [][4]string{
		{"(m x ...)", "(list x ...)", "(m 1 b)", "(~list 1 b)"},
		{"(m (a b ...) ...)", "((b ... a) ...)", "(m (1 2 3) (4))", "((2 3 1) (4))"},
		{"(m (a b ...) ...)", "((a b) ... ...)", "(m (1 2 3) (4))", "((1 2) (1 3))"},
		{"(m x ... y)", "(y x ...)", "(m 1 2 3)", "(3 1 2)"},
		{"(m . x)", "x", "(m 1 2 3)", "(1 2 3)"},
		{"(m x)", "(x (... ...))", "(m 1)", "(1 ~...)"},
	} {
		wantMade(t, made(c[0], c[1]), of(c[2]), "~", of(c[3]))
	}
	wantNone(t, made("(m (x ...) (y ...))", "((x y) ...)"), of("(m (1) (2 3))"), "~", api.ErrRulesUneven)
	wantNone(t, made("(m x ...)", "x"), of("(m 1)"), "~", api.ErrRulesDepth)
	wantNone(t, made("(m x x)", "x"), of("(m 1 2)"), "~", api.ErrRulesForm)
	wantNone(t, made("(m ... x)", "1"), of("(m 1)"), "~", api.ErrRulesForm)
}

func TestMarks(t *testing.T) {
	r := made("(m x)", "(a x ...x . b)")
	for _, mark := range []string{"", "~", "~1~", "+", "-", "a", "_", "...", "..", "1+", strings.Repeat("a", 15), strings.Repeat("a", 16), strings.Repeat("~", 16)} {
		wantMade(t, r, of("(m q)"), mark, dotted(sym(mark+"a"), sym("q"), sym(mark+"...x"), sym(mark+"b")))
	}
	for _, mark := range []string{"5", "-5", ".", " ", "a b", "(", "~\n", "\x00", "\xff", strings.Repeat("5", 16), strings.Repeat("a", 17), strings.Repeat("a", 64), strings.Repeat("a", 65), strings.Repeat("a", 1<<24)} {
		wantNone(t, r, of("(m q)"), mark, api.ErrRulesForm)
		// It comes ahead of a use that may not be, and behind what is wrong with the rules.
		wantNone(t, r, sym("5"), mark, api.ErrRulesForm)
		wantNone(t, r, of("(m)"), mark, api.ErrRulesForm)
		wantNone(t, made("(m x ...)", "x"), of("(m q)"), mark, api.ErrRulesDepth)
		wantNone(t, api.Rules{Ellipsis: "...", Literals: names(33)}, of("(m q)"), mark, api.ErrRulesMany)
	}
}

func TestUses(t *testing.T) {
	all := made("(m . x)", "(x)")
	for _, c := range [][2]string{{"(m)", "(())"}, {"(m 1)", "((1))"}, {"(m . 1)", "(1)"}, {"(m 1 . 2)", "((1 . 2))"}, {"(m . #(1))", "(#(1))"}, {"(5 1)", "((1))"}, {"(())", "(())"}, {"((m) . 1)", "(1)"}, {"(other 1)", "((1))"}, {"(... 1)", "((1))"}, {"(#(m) x)", "((x))"}} {
		wantMade(t, all, of(c[0]), "~", of(c[1]))
	}
	for _, s := range []string{"()", "m", "1", "#t", "#\\m", "\"m\"", "#()", "#(m)", "#(m 1)"} {
		wantNone(t, all, of(s), "~", api.ErrRulesNone)
	}
	for _, d := range odd() {
		wantNone(t, all, d, "~", api.ErrRulesNone)
		wantNone(t, all, list(sym("m"), d), "~", api.ErrRulesNone)
		wantNone(t, all, list(d, sym("m")), "~", api.ErrRulesNone)
		wantNone(t, all, dotted(sym("m"), d), "~", api.ErrRulesNone)
	}
	// The tail is held against the pattern as well.
	lists := made("(m x ...)", "(x ...)")
	wantMade(t, lists, of("(m)"), "~", list())
	wantMade(t, lists, of("(m 1)"), "~", of("(1)"))
	wantNone(t, lists, of("(m . 1)"), "~", api.ErrRulesNone)
	wantNone(t, lists, of("(m 1 . 2)"), "~", api.ErrRulesNone)
	wantMade(t, made("(m . #(x ...))", "(x ...)"), of("(m . #(1 2))"), "~", of("(1 2)"))
	wantNone(t, made("(m . #(x ...))", "(x ...)"), of("(m 1 2)"), "~", api.ErrRulesNone)
	wantNone(t, made("(m . #(x ...))", "(x ...)"), of("(m #(1 2))"), "~", api.ErrRulesNone)
	wantMade(t, made("(m . 5)", "1"), of("(m . 5)"), "~", of("1"))
	wantMade(t, made("(m x ... . y)", "(y x ...)"), of("(m 1 2 . 3)"), "~", of("(3 1 2)"))
	wantMade(t, made("(m x ... . y)", "(y x ...)"), of("(m . 3)"), "~", of("(3)"))
	wantMade(t, made("(m x ... . y)", "(y x ...)"), of("(m)"), "~", of("(())"))
}

func TestTheFirstRuleThatMatches(t *testing.T) {
	r := made("(m)", "none", "(m else x)", "(first x)", "(m x => y)", "(second x y)", "(m x y)", "(third x y)", "(m (x ...) ...)", "(fourth (x ...) ...)", "(m 1 . x)", "(fifth x)", "(m #(x) ...)", "(sixth x ...)")
	for _, c := range [][2]string{{"(m)", "~none"}, {"(m else 1)", "(~first 1)"}, {"(m else else)", "(~first else)"}, {"(m 1 => 2)", "(~second 1 2)"}, {"(m else => 2)", "(~second else 2)"}, {"(m => else)", "(~third => else)"}, {"(m () (1))", "(~third () (1))"}, {"(m () (1) ())", "(~fourth () (1) ())"}, {"(m (1))", "(~fourth (1))"}, {"(m 1 2 3)", "(~fifth (2 3))"}, {"(m 1)", "(~fifth ())"}, {"(m 1 . 2)", "(~fifth 2)"}, {"(m #(1) #(2) #(3))", "(~sixth 1 2 3)"}} {
		wantMade(t, r, of(c[0]), "~", of(c[1]))
	}
	for _, s := range []string{"(m 2)", "(m 2 3 4)", "(m . 2)", "(m #(1) #(2 3) #(4))", "(m #() (1) 2)", "(m 2 . 1)", "(m #())", "(m () 1 2)", "(m else)"} {
		wantNone(t, r, of(s), "~", api.ErrRulesNone)
	}
	wantNone(t, made(), of("(m)"), "~", api.ErrRulesNone)
	wantNone(t, api.Rules{Ellipsis: "..."}, of("(m 1)"), "", api.ErrRulesNone)
	// What a rule that does not match has matched in part is of no moment.
	wantMade(t, made("(m x 1)", "x", "(m y x)", "(x y)"), of("(m 5 6)"), "~", of("(6 5)"))
	wantMade(t, made("(m (x y) ... z 1)", "(x ... y ... z)", "(m y x z v)", "(v y x z)"), of("(m (1 2) (3 4) (5 6) 7)"), "~", of("(7 (1 2) (3 4) (5 6))"))
	// All 32 rules count, and the last one may be the first that matches.
	var texts []string
	for _, name := range names(32) {
		texts = append(texts, "(m \""+name+"\")", name)
	}
	for _, name := range names(32) {
		wantMade(t, made(texts...), of("(m \""+name+"\")"), "~", sym("~"+name))
	}
	wantNone(t, made(texts...), of("(m \"n32\")"), "~", api.ErrRulesNone)
}

func TestTemplatesWithoutDots(t *testing.T) {
	r := func(template string) api.Rules { return made("(m x (y #(z)) . v)", template) }
	for _, c := range [][2]string{
		{"x", "1"}, {"y", "(b c)"}, {"z", "#(d)"}, {"v", "(e . f)"}, {"w", "~w"}, {"m", "~m"}, {"_", "~_"}, {"else", "~else"}, {"=>", "~=>"}, {"..", "~.."},
		{"5", "5"}, {"#t", "#t"}, {"#\\x", "#\\x"}, {"\"x\"", "\"x\""}, {"()", "()"}, {"#()", "#()"},
		{"(x y z v w)", "(1 (b c) #(d) (e . f) ~w)"}, {"#(x (y #(z)) w)", "#(1 ((b c) #(#(d))) ~w)"}, {"(x x . x)", "(1 1 . 1)"}, {"(x . w)", "(1 . ~w)"}, {"(w . z)", "(~w . #(d))"},
		// data.Make joins a tail that has items
		{"(x . y)", "(1 b c)"}, {"(x x . v)", "(1 1 e . f)"}, {"((x . y) . v)", "((1 b c) e . f)"}, {"#((w . y) y)", "#((~w b c) (b c))"},
		{"(... x)", "1"}, {"(... w)", "~w"}, {"(... ...)", "~..."}, {"(... (x ...))", "(1 ~...)"}, {"(... (... x))", "(~... 1)"}, {"(... (... ...))", "(~... ~...)"}, {"(... (... x y))", "(~... 1 (b c))"}, {"(... (x . ...))", "(1 . ~...)"}, {"(... (... . v))", "(~... e . f)"}, {"(... #(... (... x)))", "#(~... (~... 1))"}, {"((... ...) (... (... ...)) x)", "(~... (~... ~...) 1)"}, {"((... (w . y)) . v)", "((~w b c) e . f)"}, {"(... 5)", "5"}, {"(... ())", "()"},
	} {
		wantMade(t, r(c[0]), of("(m 1 ((b c) #(#(d))) e . f)"), "~", of(c[1]))
	}
	wantMade(t, made("(m x)", "(a . x)"), of("(m ())"), "~", of("(~a)"))
	wantMade(t, made("(m . x)", "(a . x)"), of("(m)"), "~", of("(~a)"))
	wantMade(t, made("(m x)", "(a . x)"), of("(m #())"), "~", of("(~a . #())"))
	wantMade(t, made("(m x)", "#(a (b . x))"), of("(m (c . d))"), "~", of("#(~a (~b c . d))"))
	// A string is no symbol, whatever its bytes.
	wantMade(t, made("(m x \"...\")", "(\"x\" \"...\" x (\"...\" x))"), of("(m 1 \"...\")"), "~", of("(\"x\" \"...\" 1 (\"...\" 1))"))
	wantMade(t, made("(m x)", "(\"...\" x x . \"...\")"), of("(m 1)"), "~", of("(\"...\" 1 1 . \"...\")"))
	// The first item of a rule's pattern is no variable, nor a literal, nor the dots.
	wantMade(t, made("(x y)", "(x y)"), of("(m 1)"), "~", of("(~x 1)"))
	wantMade(t, made("(x x)", "(x y)"), of("(m 1)"), "~", of("(1 ~y)"))
	wantMade(t, made("(... x)", "(x)"), of("(m 1)"), "~", of("(1)"))
	wantMade(t, made("(else x)", "(x)"), of("(m 1)"), "~", of("(1)"))
	wantMade(t, api.Rules{Ellipsis: "x", Literals: []string{"..."}, Rules: []api.Rule{rule("(m y x)", "(y x ... (x x) . ...)")}}, of("(m 1 2)"), "~", of("(1 2 ~... ~x . ~...)"))
}

func TestTemplatesWithDots(t *testing.T) {
	const pattern = "(m a (b c ...) ... . d)"
	const use = "(m 0 (1) (2 x) (3 y z) . end)"
	for _, c := range [][2]string{
		{"(b ...)", "(1 2 3)"}, {"#(b ... a)", "#(1 2 3 0)"}, {"(b ... . d)", "(1 2 3 . end)"}, {"(b ... b ...)", "(1 2 3 1 2 3)"}, {"((b a w) ...)", "((1 0 ~w) (2 0 ~w) (3 0 ~w))"}, {"((b . a) ...)", "((1 . 0) (2 . 0) (3 . 0))"}, {"(#(b) ... . d)", "(#(1) #(2) #(3) . end)"},
		{"(c ... ...)", "(x y z)"}, {"((c ...) ...)", "(() (x) (y z))"}, {"(#(c ...) ...)", "(#() #(x) #(y z))"}, {"((b c ...) ...)", "((1) (2 x) (3 y z))"}, {"((c ... b) ...)", "((1) (x 2) (y z 3))"}, {"((c ... . b) ...)", "(1 (x . 2) (y z . 3))"}, {"((b c) ... ...)", "((2 x) (3 y) (3 z))"}, {"(((b c) ...) ...)", "(() ((2 x)) ((3 y) (3 z)))"}, {"(((b c a w) ...) ...)", "(() ((2 x 0 ~w)) ((3 y 0 ~w) (3 z 0 ~w)))"},
		{"((c ... c ...) ...)", "(() (x x) (y z y z))"}, {"((b (c b) ...) ...)", "((1) (2 (x 2)) (3 (y 3) (z 3)))"}, {"(((c b a) ... ...))", "(((x 2 0) (y 3 0) (z 3 0)))"},
		{"((... b) ...)", "(1 2 3)"}, {"((... (b ...)) ...)", "((1 ~...) (2 ~...) (3 ~...))"}, {"((... (... b)) ...)", "((~... 1) (~... 2) (~... 3))"}, {"((... c) ... ...)", "(x y z)"}, {"(((... (c ...)) ...) ...)", "(() ((x ~...)) ((y ~...) (z ~...)))"}, {"((b (... ...)) ...)", "((1 ~...) (2 ~...) (3 ~...))"},
	} {
		wantMade(t, made(pattern, c[0]), of(use), "~", of(c[1]))
	}
	// Dots behind which nothing matched.
	for _, c := range [][3]string{
		{"(b ...)", "()", "()"}, {"#(b ...)", "#()", "#()"}, {"(b ... . d)", "end", "()"}, {"(a b ... . d)", "(0 . end)", "(0)"}, {"(c ... ...)", "()", "()"}, {"((c ...) ...)", "()", "()"}, {"((b c) ... ...)", "()", "()"}, {"(((b c) ...) ... . d)", "end", "()"}, {"((... (b ...)) ...)", "()", "()"}, {"(a ((b w) ...))", "(0 ())", "(0 ())"},
	} {
		wantMade(t, made(pattern, c[0]), of("(m 0 . end)"), "~", of(c[1]))
		wantMade(t, made(pattern, c[0]), of("(m 0)"), "~", of(c[2]))
	}
	wantMade(t, made(pattern, "(c ... ...)"), of("(m 0 (1) (2))"), "~", of("()"))
	wantMade(t, made(pattern, "((c ...) ...)"), of("(m 0 (1) (2))"), "~", of("(() ())"))
	wantMade(t, made("(m (a ...) ...)", "(a ... ...)"), of("(m () (1) () (2 3) ())"), "~", of("(1 2 3)"))
	wantMade(t, made("(m ((a ...) ...) ...)", "(a ... ... ...)"), of("(m () (() (1)) ((2 3) (4) ()))"), "~", of("(1 2 3 4)"))
	wantMade(t, made("(m ((a ...) ...) ...)", "((a ... ...) ...)"), of("(m () (() (1)) ((2 3) (4) ()))"), "~", of("(() (1) (2 3 4))"))
	wantMade(t, made("(m ((a ...) ...) ...)", "((a ...) ... ...)"), of("(m () (() (1)) ((2 3) (4) ()))"), "~", of("(() (1) (2 3) (4) ())"))
	wantMade(t, made("(m ((a ...) ...) ...)", "(((a 1) ...) ... ...)"), of("(m () (() (1)) ((2 3) (4) ()))"), "~", of("(() ((1 1)) ((2 1) (3 1)) ((4 1)) ())"))
	// Of repeated vectors, dotted data, tails.
	wantMade(t, made("(m #(a (b)) ...)", "((b a) ...)"), of("(m #(1 (2)) #(3 (4)))"), "~", of("((2 1) (4 3))"))
	wantMade(t, made("(m (a . b) ...)", "((b . a) ...)"), of("(m (1 2) (3 . 4) (5))"), "~", of("(((2) . 1) (4 . 3) (() . 5))"))
	wantMade(t, made("(m (a ... . b) ...)", "((b a ...) ...)"), of("(m 1 (2 . 3) (4 5))"), "~", of("((1) (3 2) (() 4 5))"))
	wantMade(t, made("(m #(a ... 0) ... . #(b ...))", "((a ...) ... b ...)"), of("(m #(0) #(1 0) . #(2 3))"), "~", of("(() (1) 2 3)"))
}

func TestUneven(t *testing.T) {
	for _, c := range []struct {
		pattern, template string
		even, uneven      []string
	}{
		{"(m (x ...) (y ...))", "((x y) ...)", []string{"(m () ())", "(m (1) (2))", "(m (1 2) (3 4))"}, []string{"(m (1) ())", "(m () (1))", "(m (1) (2 3))", "(m (1 2 3) (4 5))"}},
		{"(m (x ...) (y ...))", "((... (x y)) ...)", []string{"(m (1) (2))"}, []string{"(m (1) (2 3))"}},
		{"(m (x ...) (y ...))", "(x ... y ...)", []string{"(m (1) (2 3))", "(m () (2 3))"}, nil},
		{"(m (x ...) (y ...) (z ...))", "((x (y #(z))) ...)", []string{"(m (1 1) (2 2) (3 3))"}, []string{"(m (1) (2) (3 3))", "(m (1) (2 2) (3))", "(m (1 1) (2) (3))"}},
		{"(m (x ...) ((y ...) ...))", "((x y) ... ...)", []string{"(m () ())", "(m (1) (()))", "(m (1 2) ((3) (4 5)))"}, []string{"(m (1) ())", "(m () (()))", "(m (1 2) ((3 4)))"}},
		{"(m ((x ...) ...) ((y ...) ...))", "((x y) ... ...)", []string{"(m () ())", "(m (() (1)) (() (2)))"}, []string{"(m (()) ())", "(m ((1)) (()))", "(m (() (1)) ((1) ()))", "(m ((1) (1 2)) ((1) (1 2 3)))"}},
		{"(m ((x ...) ...) ((y ...) ...))", "(((x ... y ...)) ...)", []string{"(m (() (1)) ((2) ()))"}, []string{"(m (()) ())", "(m ((1)) (() ()))"}},
		{"(m ((x ...) ...) (y ...))", "(((x y) ...) ...)", []string{"(m ((1 2) ()) (3 4))"}, []string{"(m ((1 2)) (3 4))"}},
		{"(m ((x ...) ...) (y ...))", "(((x ...) (y)) ...)", []string{"(m ((1 2) ()) (3 4))"}, []string{"(m ((1 2)) (3 4))"}},
	} {
		for _, s := range c.even {
			if _, e := Expand(made(c.pattern, c.template), of(s), "~"); e != api.OK {
				t.Errorf("%s, %s: %v", c.template, s, e)
			}
		}
		for _, s := range c.uneven {
			wantNone(t, made(c.pattern, c.template), of(s), "~", api.ErrRulesUneven)
		}
	}
	wantMade(t, made("(m (x ...) ((y ...) ...))", "((x y) ... ...)"), of("(m (1 2) ((3) (4 5)))"), "~", of("((1 3) (2 4) (2 5))"))
	wantMade(t, made("(m ((x ...) ...) (y ...))", "(((x y) ...) ...)"), of("(m ((1 2) () (3)) (a b c))"), "~", of("(((1 a) (2 a)) () ((3 c)))"))
	// Dots that are not come to are of no moment: here those within.
	wantMade(t, made("(m ((x ...) (y ...)) ...)", "(((x y) ...) ...)"), of("(m)"), "~", of("()"))
	wantNone(t, made("(m ((x ...) (y ...)) ...)", "(((x y) ...) ...)"), of("(m (() ()) ((1) ()))"), "~", api.ErrRulesUneven)
	// Nor are those of another rule.
	wantMade(t, made("(m (x ...) (y ...) 1)", "((x y) ...)", "(m (x ...) (y ...) 2)", "(x ... y ...)"), of("(m (1) (2 3) 2)"), "~", of("(1 2 3)"))
}

// manyOnes is a use with so many numbers behind others.
func manyOnes(n int, ahead ...api.Datum) api.Datum {
	return list(append(append(row(sym("m")), ahead...), slices.Repeat(row(number(1)), n)...)...)
}

func TestHowManyAreLaid(t *testing.T) {
	for _, c := range []struct {
		pattern, template string
		use               api.Datum
		laid              int
	}{
		// a use has at most 4096 data, and two of these are not handed on
		{"(m x ...)", "(x ...)", manyOnes(4094), 4095},
		{"(m x ...)", "(5 x ...)", manyOnes(4094), 4096},
		{"(m x ...)", "(5 5 x ...)", manyOnes(4094), 4097},
		{"(m x ...)", "#(x ... a)", manyOnes(4094), 4096},
		{"(m x ...)", "#(x ... a a)", manyOnes(4094), 4097},
		{"(m x ...)", "(x ... . 5)", manyOnes(4094), 4096},
		{"(m x ...)", "(x ... #())", manyOnes(4094), 4096},
		{"(m x ...)", "((x ...))", manyOnes(4094), 4096},
		{"(m x ...)", "((x ...) . a)", manyOnes(4094), 4097},
		{"(m x ...)", "(x ... 5 . 5)", manyOnes(4094), 4097},
		{"(m x ...)", "((x) ...)", manyOnes(2047), 4095},
		{"(m x ...)", "((x) ... 5)", manyOnes(2047), 4096},
		{"(m x ...)", "((x) ...)", manyOnes(2048), 4097},
		{"(m x ...)", "((x 5 a) ...)", manyOnes(1023), 4093},
		{"(m x ...)", "((x 5 a) ... 1 2 3)", manyOnes(1023), 4096},
		{"(m x ...)", "((x 5 a) ...)", manyOnes(1024), 4097},
		{"(m x ...)", "(x ... x ...)", manyOnes(2047), 4095},
		{"(m x ...)", "(x ... x ...)", manyOnes(2048), 4097},
		// of a variable all the data of what it matched
		{"(m . x)", "x", manyOnes(4094), 4095},
		{"(m . x)", "(x)", manyOnes(4094), 4096},
		{"(m . x)", "(5 x)", manyOnes(4094), 4097},
		{"(m . x)", "(5 . #(x))", manyOnes(4093), 4097},
		{"(m . x)", "(x x)", manyOnes(2046), 4095},
		{"(m . x)", "(x x 1)", manyOnes(2046), 4096},
		{"(m . x)", "(x x)", manyOnes(2047), 4097},
		{"(m x ...)", "(x ... 5 5)", list(sym("m"), nested(31, number(1)), list(slices.Repeat(row(vector()), 4060)...)), 4096},
		{"(m x ...)", "(x ... 5 5 5)", list(sym("m"), nested(31, number(1)), list(slices.Repeat(row(vector()), 4060)...)), 4097},
		// a tail is laid, though it is joined
		{"(m y x ...)", "(5 x ... . y)", manyOnes(4093, list()), 4096},
		{"(m y x ...)", "(5 5 x ... . y)", manyOnes(4093, list()), 4097},
		{"(m y x ...)", "(5 x ... . y)", manyOnes(4091, list(number(1), number(1))), 4096},
		{"(m y x ...)", "(5 5 x ... . y)", manyOnes(4091, list(number(1), number(1))), 4097},
		{"(m y x ...)", "((... ...) x ... . y)", manyOnes(4093, list()), 4096},
		{"(m y x ...)", "((... ...) 5 x ... . y)", manyOnes(4093, list()), 4097},
		{"(m y x ...)", "((... 5) x ... . y)", manyOnes(4093, list()), 4096},
		{"(m y x ...)", "((... 5) 5 x ... . y)", manyOnes(4093, list()), 4097},
		{"(m y x ...)", "((... (... 5)) x ... . y)", manyOnes(4091, list()), 4096},
		{"(m y x ...)", "((... (... 5)) x ... . y)", manyOnes(4092, list()), 4097},
		{"(m y x ...)", "((... (5 (... ...))) x ... . y)", manyOnes(4089, list()), 4096},
		{"(m y x ...)", "((... (5 (... ...))) x ... . y)", manyOnes(4090, list()), 4097},
		{"(m y x ...)", "(x ... (() . y))", manyOnes(4092, list()), 4096},
		{"(m y x ...)", "(x ... (() . y))", manyOnes(4093, list()), 4097},
		// a list of the dots and another one is not, but within itself
		{"(m x ...)", "((... 5) x ...)", manyOnes(4094), 4096},
		{"(m x ...)", "((... ...) x ...)", manyOnes(4094), 4096},
		{"(m x ...)", "((... 5) 5 x ...)", manyOnes(4094), 4097},
		{"(m x ...)", "((... (5 ...)) x ...)", manyOnes(4092), 4096},
		{"(m x ...)", "((... (5 ...)) x ...)", manyOnes(4093), 4097},
		{"(m x ...)", "((... (... 5)) x ...)", manyOnes(4092), 4096},
		{"(m x ...)", "((... (... 5)) x ...)", manyOnes(4093), 4097},
		{"(m x ...)", "(... ((... 5) 5))", manyOnes(0), 5},
		{"(m x ...)", "((... x) ... 5)", manyOnes(4094), 4096},
		{"(m x ...)", "((... x) ... 5 5)", manyOnes(4094), 4097},
		// as often as it is come to: not at all, too
		{"(m (y ...) x ...)", "(5 x ... (y 5 5) ...)", manyOnes(4093, list()), 4095},
		{"(m (y ...) x ...)", "(5 5 x ... (y 5 5) ...)", manyOnes(4093, list()), 4096},
	} {
		d, e := Expand(made(c.pattern, c.template), c.use, "~")
		if c.laid > 4096 {
			wantNone(t, made(c.pattern, c.template), c.use, "~", api.ErrRulesMany)
		} else if e != api.OK || size(d) > c.laid {
			t.Errorf("%s, %s: %d, %v", c.pattern, c.template, size(d), e)
		}
		if _, n, _ := other(made(c.pattern, c.template), c.use, "~"); n < 4097 && n != c.laid {
			t.Errorf("%s, %s: %d laid", c.pattern, c.template, n)
		}
	}
}

func TestManyOrUnevenByWhatComesFirst(t *testing.T) {
	for _, c := range []struct {
		template string
		want     api.Errno
	}{
		{"((y z) ... x ... x ...)", api.ErrRulesUneven},
		{"(x ... (y z) ... x ...)", api.ErrRulesUneven},
		{"(x ... x ... (y z) ...)", api.ErrRulesMany},
		{"(x ... #(x ... (y z) ...))", api.ErrRulesMany},
		{"(x ... (x ...) . #((y z) ...))", api.ErrRulesMany},
		{"((x ... (y z) ...) . #(x ...))", api.ErrRulesUneven},
		{"((x x) ... (y z) ...)", api.ErrRulesMany},
		{"((x y) ... x ...)", api.ErrRulesUneven},
	} {
		use := of("(m (1 2) (3))")
		use.List = append(use.List, slices.Repeat(row(number(1)), 2100)...)
		wantNone(t, made("(m (y ...) (z ...) x ...)", c.template), use, "~", c.want)
	}
	// At the 4097th datum itself, and at dots right behind the 4096th.
	uneven := func(n int) api.Datum { return manyOnes(n, list(number(1), number(2)), list(number(3))) }
	for n, want := range map[int]api.Errno{4086: api.ErrRulesUneven, 4087: api.ErrRulesUneven, 4088: api.ErrRulesMany, 4089: api.ErrRulesMany} {
		wantNone(t, made("(m (y ...) (z ...) x ...)", "(1 2 3 4 5 6 7 8 x ... (y z) ...)"), uneven(n), "~", want)
	}
	// A list is laid ahead of the dots within it.
	for n, want := range map[int]api.Errno{4086: api.ErrRulesUneven, 4087: api.ErrRulesMany} {
		wantNone(t, made("(m (y ...) (z ...) x ...)", "(1 2 3 4 5 6 7 8 x ... ((y z) ...))"), uneven(n), "~", want)
	}
	// In the second turn of dots, what comes of the first has been laid.
	for n, want := range map[int]api.Errno{4073: api.ErrRulesUneven, 4074: api.ErrRulesUneven, 4075: api.ErrRulesMany} {
		use := manyOnes(n, of("((1 2) (3 4))"), of("((5 6) (7))"))
		wantNone(t, made("(m ((y ...) ...) ((z ...) ...) x ...)", "(1 2 3 4 5 6 7 8 9 10 11 12 13 x ... ((y z) ...) ...)"), use, "~", want)
	}
}

func TestWhatComesOfItMayNotBe(t *testing.T) {
	name := func(n int) string { return strings.Repeat("n", n) }
	for size := 1; size <= 64; size++ {
		r := with(of("(m x)"), list(sym(name(size)), sym("x")))
		for mark := range 17 {
			if mark+size > 64 {
				wantNone(t, r, of("(m 1)"), name(mark), api.ErrRulesMany)
			} else {
				wantMade(t, r, of("(m 1)"), name(mark), list(sym(name(mark+size)), number(1)))
			}
		}
	}
	// What a variable matched has no mark, nor has a string.
	wantMade(t, with(of("(m x)"), sym("x")), list(sym("m"), sym(name(64))), name(16), sym(name(64)))
	wantMade(t, made("(m)", "\""+name(64)+"\""), of("(m)"), name(16), of("\""+name(64)+"\""))
	// Too long, but never come to; and uneven behind it.
	wantMade(t, with(of("(m x ...)"), list(list(sym("x"), sym(name(64))), sym("..."))), of("(m)"), "~", list())
	long := list(sym(name(64)), list(sym("x"), sym("y")), sym("..."))
	wantNone(t, with(of("(m (x ...) (y ...))"), long), of("(m (1) ())"), "~", api.ErrRulesUneven)
	wantNone(t, with(of("(m (x ...) (y ...))"), long), of("(m (1) (2))"), "~", api.ErrRulesMany)
	wantMade(t, with(of("(m (x ...) (y ...))"), long), of("(m (1) (2))"), "", list(sym(name(64)), of("(1 2)")))
	// Too deep.
	for within := range 32 {
		for depth := range 32 {
			r := with(of("(m x)"), nested(within, sym("x")))
			use := list(sym("m"), nested(depth, number(1)))
			if within+depth > 32 {
				wantNone(t, r, use, "~", api.ErrRulesMany)
			} else {
				wantMade(t, r, use, "~", nested(within+depth, number(1)))
			}
		}
	}
	// A tail that is joined is no deeper.
	for within := range 32 {
		for depth := 1; depth < 32; depth++ {
			r := with(of("(m x)"), nested(within, dotted(sym("a"), sym("x"))))
			use := list(sym("m"), nested(depth, number(1)))
			if within+depth > 32 {
				wantNone(t, r, use, "~", api.ErrRulesMany)
			} else {
				wantMade(t, r, use, "~", nested(within, list(sym("~a"), nested(depth-1, number(1)))))
			}
		}
	}
}

// R1, R4

func TestEveryCallEnds(t *testing.T) {
	l := append(odd(), api.Datum{}, api.Datum{Kind: math.MinInt}, nested(1000, list()), sym("x"), of("(m x ...)"), of("(m x ... . y)"), of("(x ...)"))
	for _, p := range l {
		for _, d := range l {
			for _, r := range []api.Rules{{}, made(), made("(m x)", "x"), with(p, d), with(list(sym("m"), p), d), with(dotted(sym("m"), p), list(d, sym("...")))} {
				Check(r)
				Match(r, p, d)
				Expand(r, p, "~")
				Expand(r, list(p, d), "")
			}
		}
	}
}

func TestManyVariablesAndMuchData(t *testing.T) {
	const n = 1000
	vars := list(symbols(n)...)
	dots := sym("...")
	pattern := list(sym("m"), list(list(vars, dots), dots), dots)
	for _, c := range []struct {
		template api.Datum
		item     string
		want     int
	}{
		{list(vars, dots, dots, dots), "()", 1},
		{list(list(list(vars, dots), dots), dots), "()", 1 + n},
		{list(vars, dots, dots, dots), "(())", 1},
		{list(list(vars, dots, dots), dots), "(())", 1 + n},
		{list(list(list(list(vars, sym("other")), dots), dots), dots), "()", 1 + n},
	} {
		use := list(append(row(sym("m")), slices.Repeat(row(of(c.item)), n)...)...)
		if d, e := Expand(with(pattern, c.template), use, "~"); size(d) != c.want || e != api.OK {
			t.Errorf("%s: %d, %v", c.item, size(d), e)
		}
	}
	// Many dots that nothing comes of.
	var many []api.Datum
	for range 300 {
		many = append(many, sym("n0"), dots, dots, dots)
	}
	use := list(append(row(sym("m")), slices.Repeat(row(list()), 4000)...)...)
	if d, e := Expand(with(list(sym("m"), list(list(vars, dots), dots), dots), list(many...)), use, "~"); size(d) != 1 || e != api.OK {
		t.Errorf("%d, %v", size(d), e)
	}
}

func TestArgumentsAreNotChangedAndAnswersAreTheirOwn(t *testing.T) {
	r := made("(m (a b ...) ... . c)", "((a (b ...) (5 #(\"s\" () (6)))) ... c c . c)")
	use := of("(m ((1 2) #(3 (4)) (5)) (#(6)) . #((7 8) 9))")
	ahead, aheadUse := rawRules(r), raw(use)
	first, e := Expand(r, use, "~")
	if e != api.OK {
		t.Fatal(e)
	}
	was := raw(first)
	second, _ := Expand(r, use, "~")
	spoil(second.List)
	Match(r, of("((a b ...) ... . c)"), use)
	if rawRules(r) != ahead || raw(use) != aheadUse || raw(first) != was {
		t.Error("an argument, or another answer, has changed")
	}
	// No two lists of one answer share memory.
	const parts = "((1 (2)) (1 (2)) #(1 (2)) ((3 (4)) 5) ((3 (4)) 5) (3 (4)) (3 (4)) (1 1 (2)) #((1 (2))))"
	for i := range of(parts).List {
		d, _ := Expand(made("(m x y ...)", "(x x #(1 (2)) (y 5) ... y ... (1 . x) #(x))"), of("(m (1 (2)) (3 (4)) (3 (4)))"), "~")
		if told(d) != parts {
			t.Fatal(told(d))
		}
		spoil(d.List[i].List)
		d.List[i] = of(parts).List[i]
		if told(d) != parts {
			t.Errorf("part %d shares memory: %s", i, told(d))
		}
	}
	spoil(use.List)
	spoil(r.Rules[0].Template.List)
	spoil(r.Rules[0].Pattern.List)
	if raw(first) != was {
		t.Error("an answer shares memory with an argument")
	}
	// What lies behind the end of an empty list is memory too.
	hidden := api.Datum{Kind: api.DatInt, Int: 5, List: make([]api.Datum, 0, 3)}
	bare, _ := Expand(with(of("(m . x)"), list(hidden, sym("x"))), list(sym("m"), hidden), "~")
	spoil(bare.List)
	if hidden.List[:1][0].Text != "" {
		t.Error("an answer shares memory with an argument")
	}
	alone, _ := Expand(made("(m . x)", "x"), of("(m (1) (2))"), "~")
	again, _ := Expand(made("(m . x)", "x"), of("(m (1) (2))"), "~")
	spoil(alone.List)
	if raw(again) != raw(of("((1) (2))")) {
		t.Error(told(again))
	}
}
