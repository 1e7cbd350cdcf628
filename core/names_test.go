package core

import (
	"scrimshaw/api"
	"slices"
	"strconv"
	"strings"
	"testing"
)

// P6.2

func wantFree(t *testing.T, e api.Expr, want ...string) {
	t.Helper()
	if got := Free(e); !slices.Equal(got, want) {
		t.Errorf("Free(%.300s): %.300q, want %.300q", toldWhole(e), got, want)
	}
}

func TestFree(t *testing.T) {
	for s, want := range map[string]string{
		"(lambda (x) (call f x y))":                          "f y",
		"(let ((x x)) x)":                                    "x",
		"(letrec ((x x)) x)":                                 "",
		"(let ((x y)) x)":                                    "y",
		"(let ((x 'y)) x)":                                   "",
		"(let ((x y) (y x)) (call x y z))":                   "x y z",
		"(letrec ((x y) (y x)) (call x y z))":                "z",
		"(fix ((f (lambda (x) (call f g x y)))) (call f x))": "g x y",
		"(fix ((f (lambda () g)) (g (lambda () f))) f)":      "",
		"(set! x 'x)":                                        "x",
		"(set! x x)":                                         "x",
		"(lambda (x) (set! x y))":                            "y",
		"(lambda (x) (set! y x))":                            "y",
		"'x":                                                 "",
		"x":                                                  "x",
		"(prim car x)":                                       "x",
		"(prim car car)":                                     "car",
		"(prim void)":                                        "",
		"(lambda (car) (prim car y))":                        "y",
		"(call (lambda (x) x) x)":                            "x",
		"(call x (lambda (x) x))":                            "x",
		"(call (lambda (x) (call (lambda (x) x) x)))":        "",
		"(call (lambda (x) (call (lambda (x) x) y)) x)":      "x y",
		"(lambda (x) (begin (lambda (x) x) x))":              "",
		"(begin (let ((x '1)) x) x)":                         "x",
		"(let ((x (let ((x x)) x))) x)":                      "x",
		"(let ((x (lambda (x) x))) x)":                       "",
		"(let ((y (lambda (x) y))) x)":                       "x y",
		"(let () x)":                                         "x",
		"(letrec () x)":                                      "x",
		"(begin B a b A a b aa - a.1 a-1 ~ 1+)":              "- 1+ A B a a-1 a.1 aa b ~",
		"(if a b c)":                                         "a b c",
		"(begin z y x w z y)":                                "w x y z",
	} {
		e := of(s)
		wantFree(t, e, strings.Fields(want)...)
		for _, name := range strings.Fields(want) {
			wantFree(t, lam(names(name), e), slices.DeleteFunc(strings.Fields(want), func(s string) bool { return s == name })...)
		}
	}
}

func TestFreeOfOnesThatMayNotBe(t *testing.T) {
	a, b, c, x := ref("a"), ref("b"), ref("c"), ref("x")
	ab := names("a", "b")
	wantFree(t, lam(ab))
	wantFree(t, lam(ab, a, b, c), "c")
	wantFree(t, lam(names("a", "a"), call(a, b), a), "b")
	wantFree(t, seq(lam(names("a", "a", "a"), a), a), "a")
	wantFree(t, lam(numbers(10), ref("n9"), ref("n10")), "n10")
	// Of a let the last kid is the body, however few or many there are.
	wantFree(t, let(ab))
	wantFree(t, let(ab, a))
	wantFree(t, let(ab, call(a, b, c)), "c")
	wantFree(t, let(ab, a, b), "a")
	wantFree(t, let(ab, a, b, c), "a", "b", "c")
	wantFree(t, let(ab, a, b, c, a), "a", "b", "c")
	wantFree(t, let(ab, x, x, x, a), "x")
	wantFree(t, let(nil, a, b, c), "a", "b", "c")
	wantFree(t, let(nil))
	wantFree(t, rec(ab, a))
	wantFree(t, rec(ab, c), "c")
	wantFree(t, rec(ab))
	wantFree(t, rec(ab, a, b, c, b, a), "c")
	wantFree(t, fixed(ab, a, x), "x")
	wantFree(t, fixed(ab))
	wantFree(t, fixed(nil, a), "a")
	// Names of other kinds bind nothing; and kids are kids, wherever they stand.
	for _, kind := range []int{api.ExpQuote, api.ExpIf, api.ExpSeq, api.ExpCall, api.ExpPrim, api.ExpClo, -1, 99} {
		wantFree(t, api.Expr{Kind: kind, Name: "n", Names: ab, Const: sym("x"), Kids: kids(a, lam(ab, b, c))}, "a", "c")
		wantFree(t, lam(names("n"), api.Expr{Kind: kind, Name: "n", Names: ab, Kids: kids(x, ref("n"))}), "x")
	}
	for _, kind := range []int{api.ExpRef, api.ExpSet} {
		wantFree(t, api.Expr{Kind: kind, Name: "n", Names: names("n", "a"), Kids: kids(a, b)}, "a", "b", "n")
		wantFree(t, lam(names("n"), api.Expr{Kind: kind, Name: "n", Names: ab, Kids: kids(a)}), "a")
	}
	for _, kind := range []int{api.ExpLam, api.ExpLet, api.ExpRec, api.ExpFix} {
		wantFree(t, api.Expr{Kind: kind, Name: "n", Names: names("a"), Kids: kids(a)})
	}
	wantFree(t, set("a"), "a")
	wantFree(t, set("a", b, c), "a", "b", "c")
	wantFree(t, cond(a), "a")
	wantFree(t, call())
	wantFree(t, prim("cadr", b, a), "a", "b")
	// What stands in a reference is taken as it is, also what is no name.
	wantFree(t, seq(ref("a b"), ref("5"), ref("b"), ref(".")), ".", "5", "a b", "b")
	wantFree(t, lam(names("a b", "5"), ref("a b"), ref("5"), ref("b")), "b")
}

func TestFreeOfMany(t *testing.T) {
	var l []api.Expr
	var want []string
	for i := 30000; i > 0; i-- {
		l = append(l, ref("n"+strconv.Itoa(i)), ref("n"+strconv.Itoa(i)))
		want = append(want, "n"+strconv.Itoa(i))
	}
	slices.Sort(want)
	wantFree(t, seq(l...), want...)
	wantFree(t, lam(want[1:], l...), want[0])
	wantFree(t, nested(90000, ref("a")), "a")
	e := ref("a")
	for i := range 40000 {
		e = lam(names("n"+strconv.Itoa(i)), e, ref("n"+strconv.Itoa(i+1)))
	}
	wantFree(t, e, "a", "n40000")
}

// P6.3

func wantRename(t *testing.T, s, want string) {
	t.Helper()
	if e := Rename(of(s)); told(e) != want || rawExpr(e) != rawExpr(of(want)) {
		t.Errorf("Rename of %s: %s, want %s", s, told(e), want)
	}
}

func TestRename(t *testing.T) {
	for _, c := range [][2]string{
		{"(lambda (x) (let ((x (prim + x v.0))) x))", "(lambda (v.1) (let ((v.2 (prim + v.1 v.0))) v.2))"},
		{"x", "x"},
		{"(quote x)", "(quote x)"},
		{"(quote v.0)", "(quote v.0)"},
		{"(lambda (x) (quote v.0))", "(lambda (v.0) (quote v.0))"},
		{"(lambda (quote) (quote quote))", "(lambda (v.0) (quote quote))"},
		{"(lambda () x)", "(lambda () x)"},
		{"(lambda (a b c) (call c b a d))", "(lambda (v.0 v.1 v.2) (call v.2 v.1 v.0 d))"},
		{"(lambda (x) (set! x y))", "(lambda (v.0) (set! v.0 y))"},
		{"(lambda (x) (set! y x))", "(lambda (v.0) (set! y v.0))"},
		{"(set! v.1 (lambda (x y) x))", "(set! v.1 (lambda (v.0 v.2) v.0))"},
		{"(lambda (v.0) v.0)", "(lambda (v.1) v.1)"},
		{"(lambda (v.1) v.1)", "(lambda (v.0) v.0)"},
		{"(lambda (v.1 v.0 x) (call v.1 v.0 x))", "(lambda (v.2 v.3 v.4) (call v.2 v.3 v.4))"},
		{"(lambda (x y z) (begin v.0 v.1 v.3 v.5))", "(lambda (v.2 v.4 v.6) (begin v.0 v.1 v.3 v.5))"},
		{"(lambda (x y) (begin v.00 v.+0 v.-1 v v. v.0.0 V.0 v.1x))", "(lambda (v.0 v.1) (begin v.00 v.+0 v.-1 v v. v.0.0 V.0 v.1x))"},
		{"(lambda (car) (prim car car))", "(lambda (v.0) (prim car v.0))"},
		{"(let ((x x)) x)", "(let ((v.0 x)) v.0)"},
		{"(letrec ((x x)) x)", "(letrec ((v.0 v.0)) v.0)"},
		{"(let ((x y) (y x)) (call x y z))", "(let ((v.0 y) (v.1 x)) (call v.0 v.1 z))"},
		{"(letrec ((x y) (y x)) (call x y z))", "(letrec ((v.0 v.1) (v.1 v.0)) (call v.0 v.1 z))"},
		{"(fix ((f (lambda (x) (call f g x))) (g (lambda () f))) (call f x g))", "(fix ((v.0 (lambda (v.2) (call v.0 v.1 v.2))) (v.1 (lambda () v.0))) (call v.0 x v.1))"},
		{"(let ((x (let ((y a)) y))) (let ((z x)) z))", "(let ((v.0 (let ((v.1 a)) v.1))) (let ((v.2 v.0)) v.2))"},
		{"(let ((x (let ((x x)) x))) (let ((x x)) x))", "(let ((v.0 (let ((v.1 x)) v.1))) (let ((v.2 v.0)) v.2))"},
		{"(begin (lambda (x) x) x (lambda (x) x))", "(begin (lambda (v.0) v.0) x (lambda (v.1) v.1))"},
		{"(lambda (x) (begin (lambda (x) x) x (lambda (y) (call x y))))", "(lambda (v.0) (begin (lambda (v.1) v.1) v.0 (lambda (v.2) (call v.0 v.2))))"},
		{"(if (lambda (x) x) (lambda (y) y) (lambda (x) y))", "(if (lambda (v.0) v.0) (lambda (v.1) v.1) (lambda (v.2) y))"},
		{"(let () (letrec () x))", "(let () (letrec () x))"},
		{"(letrec ((f (lambda (v.0) (call f v.0)))) (let ((v.2 f)) (call v.2 v.0)))", "(letrec ((v.1 (lambda (v.3) (call v.1 v.3)))) (let ((v.4 v.1)) (call v.4 v.0)))"},
	} {
		wantRename(t, c[0], c[1])
	}
}

func TestRenameOfEachThatMayBe(t *testing.T) {
	for _, e := range someExprs() {
		if got := Rename(e); Check(got) != api.OK || got.Kind != e.Kind || rawExpr(quote(got.Const)) != rawExpr(quote(e.Const)) || len(got.Kids) != len(e.Kids) || len(got.Names) != len(e.Names) || !slices.Equal(Free(got), Free(e)) {
			t.Errorf("Rename(%.300s): %.300s", told(e), told(got))
		}
	}
	for n, e := range []api.Expr{let(numbers(2000), append(many(2000), ref("n1999"))...), rec(numbers(2000), append(many(2000), ref("n1999"))...)} {
		got := Rename(e)
		for i, name := range got.Names {
			if name != "v."+strconv.Itoa(i) {
				t.Fatalf("%d: %d is %s", n, i, name)
			}
		}
		if len(got.Names) != 2000 || got.Kids[2000].Name != "v.1999" || got.Kids[1999].Name != "a" {
			t.Errorf("%d: %.300s", n, told(got))
		}
	}
}

func TestRenameOfOnesThatMayNotBe(t *testing.T) {
	a := ref("a")
	for _, e := range append(withThemselves(), lam(names("a", "a"), a), lam(names("a"), a, a), let(names("a"), a), ref("5"), prim("cadr", a), call(), quote(vector()), api.Expr{Kind: api.ExpClo, Const: number(0)}, nested(250, a), seq(many(4096)...), lam(names("x"), seq(ref("x"), ref("")))) {
		if got := Rename(e); rawExpr(got) != rawExpr(api.Expr{}) || got.Names != nil || got.Kids != nil || got.Const.List != nil {
			t.Errorf("Rename(%.300s): %.300s", toldWhole(e), toldWhole(got))
		}
	}
}

// R4: arguments are as they were, and what is answered has memory of its own.

func TestRenamedOwnsItsMemory(t *testing.T) {
	for _, e := range someExprs() {
		was := rawExpr(e)
		given := memory{}
		given.ofExpr(e)
		free, got := Free(e), Rename(e)
		if rawExpr(e) != was {
			t.Errorf("%.300s is another one", was)
		}
		own := memory{}
		own.ofExpr(got)
		own.ofNames(free)
		if own.shared() {
			t.Errorf("Rename(%.300s) shares memory within itself", told(e))
		}
		for place := range own {
			if given[place] > 0 {
				t.Errorf("Rename(%.300s) shares memory with it", told(e))
			}
		}
	}
	spare := append(make([]api.Datum, 0, 4), number(1))[:0]
	e := lam(append(make([]string, 0, 9), "a"), quote(api.Datum{Kind: api.DatList, List: spare}))
	if got := Rename(e); cap(got.Kids[0].Const.List) > 0 || rawExpr(got) != rawExpr(lam(names("v.0"), quote(api.Datum{Kind: api.DatList}))) {
		t.Errorf("%s", rawExpr(got))
	}
}
