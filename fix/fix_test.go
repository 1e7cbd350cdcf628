package fix

import (
	"math"
	"scrimshaw/api"
	"scrimshaw/core"
	"strconv"
	"testing"
)

// What becomes of names, expression by expression (by the chapter's way, where there are few).

func wantText(t *testing.T, s, want string) {
	t.Helper()
	out := wantFixed(t, of(s), "1")
	if !core.Equal(out, of(want)) {
		t.Errorf("Fix(%s): %s, want %s", s, textOf(out), want)
	}
}

func TestExamples(t *testing.T) {
	wantText(t, "(letrec ((f (lambda () (f))) (x 1)) x)", "(let ((x (%unset))) (fix ((f (lambda () (f)))) (begin (set! x 1) x)))")
	wantText(t, "(letrec () 5)", "5")
}

func TestFunctions(t *testing.T) {
	wantText(t, "(letrec ((f (lambda () (g))) (g (lambda () 5))) (f))", "(fix ((f (lambda () (g))) (g (lambda () 5))) (f))")
	wantText(t, "(letrec ((f (lambda (f) (set! f 1)))) (f 2))", "(fix ((f (lambda (f) (set! f 1)))) (f 2))")
	wantText(t, "(letrec ((f (lambda () (letrec ((g (lambda () (f)))) g)))) f)", "(fix ((f (lambda () (fix ((g (lambda () (f)))) g)))) f)")
	// What nothing asks for stays, since it may have free names.
	wantText(t, "(letrec ((f (lambda () x))) 5)", "(fix ((f (lambda () x))) 5)")
	// A kid is a function only if it is an ExpLam itself.
	wantText(t, "(letrec ((f (let () (lambda () (f))))) f)", "(let ((f (%unset))) (begin (set! f (let () (lambda () (f)))) f))")
}

func TestValues(t *testing.T) {
	wantValue(t, "(letrec ((x y) (y 1) (z x)) (cons y z))", "(1 . unset)")
	wantText(t, "(letrec ((x y) (y 1)) x)", "(let ((x (%unset)) (y (%unset))) (begin (set! x y) (set! y 1) x))")
	wantText(t, "(letrec ((x 1)) (begin (set! x 2) x))", "(let ((x (%unset))) (begin (set! x 1) (begin (set! x 2) x)))")
	wantText(t, "(letrec ((a (f)) (f (lambda () b)) (b 2)) a)", "(let ((a (%unset)) (b (%unset))) (fix ((f (lambda () b))) (begin (set! a (f)) (set! b 2) a)))")
	// Where nothing asks for the value there is no variable.
	wantText(t, "(letrec ((x (write-u8 65)) (y (read-u8)) (z (write-u8 66))) y)", "(let ((y (%unset))) (begin (write-u8 65) (set! y (read-u8)) (write-u8 66) y))")
	wantText(t, "(letrec ((x a)) 5)", "(begin a 5)")
	wantText(t, "(letrec ((x a)) (let ((x 1)) x))", "(begin a (let ((x 1)) x))")
	// To be set is to be asked for.
	wantText(t, "(letrec ((x 1)) (set! x 2))", "(let ((x (%unset))) (begin (set! x 1) (set! x 2)))")
	wantText(t, "(letrec ((x 1)) (lambda () (set! x 2)))", "(let ((x (%unset))) (begin (set! x 1) (lambda () (set! x 2))))")
}

func TestAssignedFunctions(t *testing.T) {
	for _, kind := range []string{"letrec", "fix"} {
		wantText(t, "("+kind+" ((f (lambda () 1))) (set! f 2))", "(let ((f (%unset))) (begin (set! f (lambda () 1)) (set! f 2)))")
		wantText(t, "("+kind+" ((f (lambda () (set! f 2))) (g (lambda () (f))) (h (lambda () 3))) (begin (g) (set! h f)))",
			"(let ((f (%unset)) (h (%unset))) (fix ((g (lambda () (f)))) (begin (set! f (lambda () (set! f 2))) (set! h (lambda () 3)) (begin (g) (set! h f)))))")
		// It is one of this name that is set, but another variable.
		for _, s := range []string{
			"(lambda (f) (set! f 2))", "(let ((f 1)) (set! f 2))", "(let ((f 1)) (lambda () (set! f 2)))", "(letrec ((f 1)) (set! f 2))", "(let ((f f)) (begin (set! f 2) f))",
		} {
			fixed, _ := Fix(of(s))
			want := of("(fix ((f (lambda () 1))) 5)")
			want.Kids[1] = fixed
			out := wantFixed(t, of("("+kind+" ((f (lambda () 1))) "+s+")"), "")
			if !core.Equal(out, want) {
				t.Errorf("%s of %s: %s", kind, s, textOf(out))
			}
		}
		// Here it is this one: what an ExpLet binds is bound in its body alone.
		for _, s := range []string{"(let ((f (set! f 2))) f)", "(let ((g 1)) (set! f g))", "(begin (let ((f 1)) f) (set! f 2))", "(begin (letrec ((f 1)) f) (lambda () (set! f 2)))"} {
			e := of("(" + kind + " ((f (lambda () 1))) " + s + ")")
			if out := wantFixed(t, e, ""); out.Kind != api.ExpLet || has(out, func(e api.Expr) bool { return e.Kind == api.ExpFix }) {
				t.Errorf("%s of %s: %s", kind, s, textOf(out))
			}
		}
	}
	wantText(t, "(fix ((f (lambda () 1))) (letrec ((g (lambda () (set! f 2)))) (g)))", "(let ((f (%unset))) (begin (set! f (lambda () 1)) (fix ((g (lambda () (set! f 2)))) (g))))")
}

// P10.2
func TestAsItWas(t *testing.T) {
	for _, s := range []string{
		"5", "#t", "()", "#\\a", "(quote a)", "x", "(set! x 1)", "(if x y z)", "(begin x y z)", "(lambda () 1)", "(lambda (a b c d e f) (set! a b))", "(f)", "(f 1 2 3 4 5 6)", "(read-u8)", "(vector-set! a b c)",
		"(let () 5)", "(let ((x 1) (y 2)) (begin (set! x y) x))", "(fix ((f (lambda () 1))) f)", "(fix ((f (lambda (f) (set! f 1))) (g (lambda () (f 2)))) (let ((g 1)) (set! g 2)))",
		"(fix ((f (lambda () (fix ((g (lambda () (f)))) g)))) (let ((x (f))) (set! x 1)))", "(set! f (fix ((f (lambda () 1))) f))", "(begin (set! f 1) (fix ((f (lambda () 1))) f))",
	} {
		wantText(t, s, s)
	}
	for _, d := range []api.Datum{{Kind: api.DatList, List: []api.Datum{}}, {Kind: api.DatList, List: make([]api.Datum, 0, 5)}} {
		if out, wrong := Fix(api.Expr{Const: d}); wrong != api.OK || out.Kind != api.ExpQuote || out.Const.Kind != api.DatList || len(out.Const.List) != 0 {
			t.Error(out, wrong)
		}
	}
}

// looped is within itself.
func looped() api.Expr {
	e := api.Expr{Kind: api.ExpSeq, Kids: make([]api.Expr, 2)}
	e.Kids[0], e.Kids[1] = e, e
	return e
}

// wide shares its memory, so that more expressions are come to than could ever be gone over.
func wide() api.Expr {
	e := ref("a")
	for range 200 {
		e = api.Expr{Kind: api.ExpSeq, Kids: []api.Expr{e, e}}
	}
	return e
}

func TestWhatMayNotBe(t *testing.T) {
	inner := func(e api.Expr) api.Expr {
		return api.Expr{Kind: api.ExpRec, Names: []string{"x"}, Kids: []api.Expr{number(1), e}}
	}
	for _, e := range []api.Expr{
		{Kind: -1}, {Kind: api.ExpKinds}, {Kind: math.MaxInt}, {Kind: math.MinInt}, {Kind: api.ExpIf}, {Kind: api.ExpRef}, ref("a b"), {Name: "x"}, {Kind: api.ExpSet, Name: "x"}, {Kind: api.ExpSeq}, {Kind: api.ExpLam}, {Kind: api.ExpCall},
		{Kind: api.ExpLet}, {Kind: api.ExpRec}, {Kind: api.ExpFix}, {Kind: api.ExpFix, Kids: []api.Expr{number(1)}}, {Kind: api.ExpRec, Names: []string{"x"}, Kids: []api.Expr{number(1)}}, {Kind: api.ExpRec, Names: []string{"x", "x"}, Kids: make([]api.Expr, 3)},
		{Kind: api.ExpRec, Names: []string{"5"}, Kids: make([]api.Expr, 2)}, {Kind: api.ExpRec, Names: make([]string, 100000)}, {Kind: api.ExpRec, Name: "x", Kids: make([]api.Expr, 1)}, {Kind: api.ExpRec, Kids: make([]api.Expr, 2)},
		{Kind: api.ExpFix, Names: []string{"x"}, Kids: make([]api.Expr, 2)}, prim("cadr", number(1)), prim("car"), {Const: api.Datum{Kind: api.DatVector}}, {Const: api.Datum{Kind: -1}}, looped(), wide(),
		inner(prim("car")), inner(looped()), inner(wide()), inner(api.Expr{Kind: api.ExpRec, Names: []string{""}, Kids: make([]api.Expr, 2)}),
		{Kind: api.ExpSeq, Kids: make([]api.Expr, api.MaxCore)}, deep(api.MaxWithin),
	} {
		out, wrong := Fix(e)
		if wrong != api.ErrPassForm || !core.Equal(out, api.Expr{}) {
			t.Errorf("of kind %d: %v %s", e.Kind, wrong, textOf(out))
		}
	}
	for _, e := range []api.Expr{{}, {Kind: api.ExpSeq, Kids: make([]api.Expr, api.MaxCore-1)}, deep(api.MaxWithin - 1)} {
		if out, wrong := Fix(e); wrong != api.OK || !core.Equal(out, e) {
			t.Errorf("of kind %d: %v", e.Kind, wrong)
		}
	}
}

// deep has an expression within so many others.
func deep(n int) api.Expr {
	e := number(1)
	for range n {
		e = api.Expr{Kind: api.ExpCall, Kids: []api.Expr{e}}
	}
	return e
}

// wideRec has so many names, all of which are asked for, and nothing that may go wrong.
func wideRec(n int) api.Expr {
	e := api.Expr{Kind: api.ExpRec}
	body := api.Expr{Kind: api.ExpSeq}
	for i := range n {
		e.Names = append(e.Names, "x"+strconv.Itoa(i))
		e.Kids = append(e.Kids, number(i))
		body.Kids = append(body.Kids, ref(e.Names[i]))
	}
	e.Kids = append(e.Kids, body)
	return e
}

func TestTooMany(t *testing.T) {
	wantMany := func(e api.Expr) {
		t.Helper()
		if core.Check(e) != api.OK {
			t.Fatal("an expression that may not be")
		}
		if out, wrong := Fix(e); wrong != api.ErrPassMany || !core.Equal(out, api.Expr{}) {
			t.Errorf("%v %.300s", wrong, textOf(out))
		}
	}
	// Each name is made, set and asked for: an ExpLet, two ExpSeq, and four a name.
	wantFixed(t, wideRec(1023), "")
	wantMany(wideRec(1024))
	wantMany(wideRec(2047))
	// An ExpLet and an ExpSeq each; in the innermost one an ExpSet and what it sets, too.
	within := func(n int) api.Expr {
		e := ref("x")
		for range n {
			e = api.Expr{Kind: api.ExpRec, Names: []string{"x"}, Kids: []api.Expr{ref("x"), e}}
		}
		return e
	}
	wantFixed(t, within(1), "")
	wantFixed(t, within(api.MaxWithin/2-1), "")
	wantMany(within(api.MaxWithin / 2))
	wantMany(within(api.MaxWithin - 1))
}

func TestMemory(t *testing.T) {
	plain := of("(letrec ((f (lambda (x y) (set! b (g x '())))) (g (lambda () 1)) (b a)) (begin b (let ((x 1)) x) (fix ((m (lambda (n) n))) m) (set! g f)))")
	plain.Kids[0].Kids[0].Kids[0].Kids[2].Const.List = make([]api.Datum, 0, 3)
	crowded := of("(letrec ((a (car b)) (f (lambda (x y) (set! b (g x '())))) (g (lambda () 1)) (b a) (c b) (d c) (h d) (i h) (j i) (k (begin (set! g 5) a)) (l 1)) (begin a b c d h i j k l (let ((x 1)) x) (fix ((m (lambda (n) n))) (set! m 1))))")
	for i, e := range []api.Expr{plain, crowded} {
		m := memory{}
		m.look(e)
		out := wantFixed(t, e, "")
		m.look(out)
		again, _ := Fix(e)
		m.look(again)
		if !core.Equal(out, again) || m.isShared() {
			t.Error("memory is shared by what comes of", textOf(e))
		}
		if has(out, makesVector) != (i == 1) {
			t.Error(textOf(out))
		}
	}
}
