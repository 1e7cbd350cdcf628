package box

import (
	"math"
	"scrimshaw/api"
	"scrimshaw/core"
	"scrimshaw/model"
	"strconv"
	"testing"
)

// What becomes of names, expression by expression (by the chapter's way, where it keeps what an expression means).

func wantText(t *testing.T, s, want string) {
	t.Helper()
	out := wantBoxed(t, of(s), "xy")
	if !core.Equal(out, of(want)) {
		t.Errorf("Box(%s): %s, want %s", s, textOf(out), want)
	}
}

func TestExamples(t *testing.T) {
	wantText(t, "(lambda (x) (begin (set! x 1) x))", "(lambda (x) (let ((x (%box x))) (begin (%set-box! x 1) (%unbox x))))")
	wantForm(t, of("(set! x 1)"))
}

func TestParameters(t *testing.T) {
	wantText(t, "((lambda (x) (begin (set! x (+ x 1)) x)) 5)", "((lambda (x) (let ((x (%box x))) (begin (%set-box! x (+ (%unbox x) 1)) (%unbox x)))) 5)")
	wantText(t, "((lambda (a b c) (begin (set! c a) (set! a b) (cons a c))) 1 2 3)",
		"((lambda (a b c) (let ((a (%box a)) (c (%box c))) (begin (%set-box! c (%unbox a)) (%set-box! a b) (cons (%unbox a) (%unbox c))))) 1 2 3)")
	wantText(t, "((lambda (a b c d e f) (set! a (set! b (set! c (set! d (set! e (set! f a))))))) 1 2 3 4 5 6)",
		"((lambda (a b c d e f) (let ((a (%box a)) (b (%box b)) (c (%box c)) (d (%box d)) (e (%box e)) (f (%box f))) (%set-box! a (%set-box! b (%set-box! c (%set-box! d (%set-box! e (%set-box! f (%unbox a))))))))) 1 2 3 4 5 6)")
	// To be set within another function is to be set; that one has the box.
	wantText(t, "(lambda (x) (lambda (y) (set! x y)))", "(lambda (x) (let ((x (%box x))) (lambda (y) (%set-box! x y))))")
	wantText(t, "(fix ((f (lambda (n) (begin (set! n 1) (f n))))) f)", "(fix ((f (lambda (n) (let ((n (%box n))) (begin (%set-box! n 1) (f (%unbox n))))))) f)")
	wantText(t, "(%callcc (lambda (k) (begin (k 1) (set! k 2))))", "(%callcc (lambda (k) (let ((k (%box k))) (begin ((%unbox k) 1) (%set-box! k 2)))))")
}

func TestLets(t *testing.T) {
	wantText(t, "(let ((x 1)) (begin (set! x 2) x))", "(let ((x (%box 1))) (begin (%set-box! x 2) (%unbox x)))")
	wantText(t, "(let ((x 1) (y z)) (begin (set! y x) y))", "(let ((x 1) (y (%box z))) (begin (%set-box! y x) (%unbox y)))")
	wantText(t, "(let ((x (f)) (y (+ a b))) (set! x (set! y x)))", "(let ((x (%box (f))) (y (%box (+ a b)))) (%set-box! x (%set-box! y (%unbox x))))")
	wantText(t, "(let ((x 1)) (if x (lambda () x) (set! x 5)))", "(let ((x (%box 1))) (if (%unbox x) (lambda () (%unbox x)) (%set-box! x 5)))")
	wantText(t, "(let ((f (lambda (g) (g f)))) (set! f 1))", "(let ((f (%box (lambda (g) (g f))))) (%set-box! f 1))")
	wantText(t, "(let ((x 1)) (fix ((f (lambda () (set! x f)))) (f)))", "(let ((x (%box 1))) (fix ((f (lambda () (%set-box! x f)))) (f)))")
	wantText(t, "(let () (let ((x 1)) (set! x x)))", "(let () (let ((x (%box 1))) (%set-box! x (%unbox x))))")
}

// Others of the same name.
func TestHiddenNames(t *testing.T) {
	wantText(t, "(lambda (x) (begin x (lambda (x) (set! x 1))))", "(lambda (x) (begin x (lambda (x) (let ((x (%box x))) (%set-box! x 1)))))")
	wantText(t, "(lambda (x) (begin (lambda (x) x) (set! x 1)))", "(lambda (x) (let ((x (%box x))) (begin (lambda (x) x) (%set-box! x 1))))")
	wantText(t, "(lambda (x) (begin (let ((x x)) x) (set! x 1)))", "(lambda (x) (let ((x (%box x))) (begin (let ((x (%unbox x))) x) (%set-box! x 1))))")
	wantText(t, "(let ((x 1)) (let ((x x)) (set! x 2)))", "(let ((x 1)) (let ((x (%box x))) (%set-box! x 2)))")
	wantText(t, "(let ((x 1)) (let ((x (set! x 2)) (y x)) (begin x y)))", "(let ((x (%box 1))) (let ((x (%set-box! x 2)) (y (%unbox x))) (begin x y)))")
	wantText(t, "(let ((x 1)) (let ((x x)) (let ((x x)) (set! x (set! x x)))))", "(let ((x 1)) (let ((x x)) (let ((x (%box x))) (%set-box! x (%set-box! x (%unbox x))))))")
	wantText(t, "(let ((x 1)) (fix ((x (lambda () x))) x))", "(let ((x 1)) (fix ((x (lambda () x))) x))")
	wantText(t, "(let ((x 1)) (begin (fix ((x (lambda () x))) x) (set! x 2)))", "(let ((x (%box 1))) (begin (fix ((x (lambda () x))) x) (%set-box! x 2)))")
	// One name is free in one place, and bound and set in another one.
	wantText(t, "(begin x (let ((x 1)) (begin (set! x 2) x)))", "(begin x (let ((x (%box 1))) (begin (%set-box! x 2) (%unbox x))))")
	wantText(t, "(let ((x x)) (set! x 2))", "(let ((x (%box x))) (%set-box! x 2))")
	wantText(t, "(fix ((f (lambda (f) (set! f 1)))) (let ((f f)) (set! f 2)))", "(fix ((f (lambda (f) (let ((f (%box f))) (%set-box! f 1))))) (let ((f (%box f))) (%set-box! f 2)))")
	// What Rename would call them.
	wantText(t, "(let ((v.1 1) (v.0 2)) (begin (set! v.0 v.1) (let ((v.2 v.3)) (set! v.1 v.0))))", "(let ((v.1 (%box 1)) (v.0 (%box 2))) (begin (%set-box! v.0 (%unbox v.1)) (let ((v.2 v.3)) (%set-box! v.1 (%unbox v.0)))))")
	// Boxes of the program's own stay what they are.
	wantText(t, "(let ((x (%box 1)) (y 2)) (begin (%set-box! x 2) (set! y x) (%unbox y)))", "(let ((x (%box 1)) (y (%box 2))) (begin (%set-box! x 2) (%set-box! y x) (%unbox (%unbox y))))")
}

// A continuation that is made while a later name's value is evaluated has the value of an earlier one, which is bound to another variable each time that it is called.
func TestValuesThatComeBack(t *testing.T) {
	wantText(t, "(let ((x 1) (k (%callcc (lambda (k) k)))) (begin (set! x (+ x 1)) (if (procedure? k) (k 5) x)))",
		"(let ((x 1) (k (%callcc (lambda (k) k)))) (let ((x (%box x))) (begin (%set-box! x (+ (%unbox x) 1)) (if (procedure? k) (k 5) (%unbox x)))))")
	wantText(t, "(let ((a b) (x (f)) (y c) (z (g)) (w d)) (begin (set! x a) (set! y x) (set! z y) (set! w z)))",
		"(let ((a b) (x (f)) (y c) (z (%box (g))) (w (%box d))) (let ((x (%box x)) (y (%box y))) (begin (%set-box! x a) (%set-box! y (%unbox x)) (%set-box! z (%unbox y)) (%set-box! w (%unbox z)))))")
	for _, s := range []string{"(if a (f) 1)", "(begin 1 (f))", "(+ 1 (f))", "(let ((y 1)) (f))", "(let ((y (f))) 1)", "(fix ((g (lambda () 1))) (g))", "(%callcc f)", "(f (lambda () 1))"} {
		e := of("(let ((x 1) (y 2)) (set! x y))")
		e.Kids[1] = of(s)
		want := of("(let ((x 1) (y 2)) (let ((x (%box x))) (%set-box! x y)))")
		want.Kids[1] = of(s)
		if out := wantBoxed(t, e, ""); !core.Equal(out, want) {
			t.Error(textOf(out))
		}
	}
	for _, s := range []string{"(lambda () (f))", "(lambda (g) (%callcc g))", "(fix ((g (lambda () (f)))) g)", "(+ 1 (read-u8))", "(if a b (begin 1 (error)))", "(%wind! (%winders))"} {
		e := of("(let ((x 1) (y 2)) (set! x y))")
		e.Kids[1] = of(s)
		want := of("(let ((x (%box 1)) (y 2)) (%set-box! x y))")
		want.Kids[1] = of(s)
		if out := wantBoxed(t, e, ""); !core.Equal(out, want) {
			t.Error(textOf(out))
		}
	}
}

// Outcomes that hang on which variable is which.
func TestOutcomes(t *testing.T) {
	for s, want := range map[string]string{
		"(let ((x 1) (k (%callcc (lambda (k) k)))) (begin (set! x (+ x 1)) (if (procedure? k) (k 5) x)))":                                                                 "2",
		"(let ((k (%callcc (lambda (k) k))) (x 1)) (begin (set! x (+ x 1)) (if (procedure? k) (k 5) x)))":                                                                 "2",
		"(let ((x (%callcc (lambda (k) k)))) (if (procedure? x) (let ((k x)) (begin (set! x 9) (k 5))) x))":                                                               "5",
		"(let ((x 1)) (let ((k (%callcc (lambda (k) k)))) (begin (set! x (+ x 1)) (if (procedure? k) (k 5) x))))":                                                         "3",
		"((lambda (x k) (begin (set! x (+ x 1)) (if (procedure? k) (k 5) x))) 1 (%callcc (lambda (k) k)))":                                                                "2",
		"((lambda (x) (let ((k (%callcc (lambda (k) k)))) (begin (set! x (+ x 1)) (if (procedure? k) (k 5) x)))) 1)":                                                      "3",
		"(let ((l '()) (x 0) (n (%callcc (lambda (k) (cons k 0))))) (begin (set! l (cons n l)) (if (pair? n) ((car n) 1) (if (< n 3) 7 8)) (set! x (+ x 1)) (cons x l)))": "(1 1)",
		"(let ((x 1) (f (lambda (g) (g)))) (begin (f (lambda () (set! x (+ x 1)))) (f (lambda () (set! x (+ x x)))) x))":                                                  "4",
		"(let ((f (lambda (n) (cons (lambda () n) (lambda (m) (set! n m)))))) (let ((a (f 1)) (b (f 2))) (begin ((cdr a) 3) (cons ((car a)) ((car b))))))":                "(3 . 2)",
		"(let ((x 1)) (set! x 2))":                                                           "void",
		"(let ((x 1)) (begin (set! x (begin (set! x 5) (+ x 1))) x))":                        "6",
		"(let ((x 1)) (cons x (begin (set! x 2) x)))":                                        "(1 . 2)",
		"(let ((x 1)) (+ (begin (set! x (+ x 1)) x) (begin (set! x (* x 5)) x)))":            "12",
		"(let ((x (%unset))) (begin (set! x x) x))":                                          "unset",
		"(let ((x 1)) (begin (set! x (lambda () x)) (procedure? (x))))":                      "#t",
		"(fix ((f (lambda (n) (if (< n 1) 0 (begin (set! n (- n 1)) (+ n (f n))))))) (f 5))": "10",
	} {
		e := of(s)
		for _, e := range []api.Expr{e, wantBoxed(t, e, "")} {
			if o := model.Run(e, "", enough); o.Err != api.OK || textOfShown(o) != want {
				t.Errorf("%s: %v, want %s", textOf(e), o, want)
			}
		}
	}
}

// Errors, and what is written ahead of them, come where they came.
func TestErrors(t *testing.T) {
	for s, want := range map[string]api.Errno{
		"(let ((x 1)) (begin (set! x (begin (write-u8 65) (car x))) (write-u8 66)))":                   api.ErrRunType,
		"(let ((x (begin (write-u8 65) (error))) (y (write-u8 66))) (set! x (set! y 1)))":              api.ErrRunUser,
		"(let ((x 1)) (begin (set! x 2) (write-u8 65) (x)))":                                           api.ErrRunProc,
		"((lambda (x) (set! x (write-u8 65))))":                                                        api.ErrRunCount,
		"((lambda (x) (set! x (write-u8 65))) (write-u8 66) 2)":                                        api.ErrRunCount,
		"(let ((x (f)) (y (write-u8 66))) (set! x y))":                                                 api.ErrRunProc,
		"(let ((x 1) (y (f))) (set! x (set! y 2)))":                                                    api.ErrRunProc,
		"(let ((x 1000)) (begin (set! x (* x x)) (set! x (* x x)) (set! x (* x x)) (set! x (* x x))))": api.ErrRunOver,
	} {
		e := of(s)
		if o := model.Run(closed(e, core.Free(e)), "", enough); o.Err != want {
			t.Errorf("%s: %v", s, o)
		}
		wantBoxed(t, e, "")
	}
}

// P11.2
func TestAsItWas(t *testing.T) {
	for _, s := range []string{
		"5", "#t", "()", "#\\a", "(quote a)", "x", "(if x y z)", "(begin x y z)", "(lambda () 1)", "(lambda (a b c d e f) (a b))", "(f)", "(f 1 2 3 4 5 6)", "(read-u8)", "(vector-set! a b c)", "(%set-box! (%box x) (%unbox y))",
		"(let () 5)", "(let ((x 1) (y (f))) (begin x y))", "(fix ((f (lambda () 1))) f)", "(fix ((f (lambda (f) f)) (g (lambda () (f 2)))) (let ((g 1)) g))", "(let ((x (%callcc (lambda (k) k)))) (x x))",
	} {
		wantText(t, s, s)
	}
	for _, d := range []api.Datum{{Kind: api.DatList, List: []api.Datum{}}, {Kind: api.DatList, List: make([]api.Datum, 0, 5)}} {
		if out, wrong := Box(api.Expr{Const: d}); wrong != api.OK || out.Kind != api.ExpQuote || out.Const.Kind != api.DatList || len(out.Const.List) != 0 {
			t.Error(out, wrong)
		}
	}
}

func TestWhatIsSet(t *testing.T) {
	for _, s := range []string{
		"(set! x 1)", "(begin 1 (set! x 1))", "(lambda (y) (set! x y))", "(let ((x (set! x 1))) x)", "(let ((x 1) (y (set! x 1))) x)", "(let ((x (lambda () (set! x 1)))) (set! x 2))", "(begin (let ((x 1)) (set! x 2)) (set! x 3))", "(begin (lambda (x) x) (set! x 1))",
		"(let ((x 1)) (set! x (set! y 2)))", "(if a b (set! car 1))", "(car (set! car 1))", "(let ((v.0 1)) (set! v.1 v.0))",
		"(fix ((f (lambda () f))) (set! f 1))", "(fix ((f (lambda () (set! f 1)))) f)", "(fix ((f (lambda () (set! g 1))) (g (lambda () f))) g)", "(fix ((f (lambda () 1))) (lambda (x) (begin (set! x 1) (set! f x))))",
		"(let ((f 1)) (fix ((f (lambda () f))) (set! f 1)))", "(let ((f 1)) (begin (set! f 2) (fix ((f (lambda () f))) (set! f 1))))", "(fix ((f (lambda () 1))) (let ((f (set! f 1))) f))", "(fix ((f (lambda () 1))) (let ((g 1)) (set! f g)))",
		"(fix ((f (lambda () 1))) (fix ((g (lambda () (set! f 1)))) g))", "(fix ((f (lambda (f) (set! f 1)))) (set! f 1))",
	} {
		wantForm(t, of(s))
	}
}

func TestRecs(t *testing.T) {
	for _, s := range []string{"(letrec () 5)", "(letrec ((x 1)) x)", "(letrec ((x (lambda () x))) x)", "(letrec ((x 1)) (set! x 2))", "(lambda (x) (begin (set! x 1) (letrec () x)))", "(let ((x (letrec () 1))) x)", "(let ((x 1)) (set! x (letrec ((y 1)) y)))", "(letrec ((x 1)) (set! y 1))"} {
		wantForm(t, of(s))
	}
}

// looped is within itself.
func looped() api.Expr {
	e := kind(api.ExpSeq, make([]api.Expr, 2)...)
	e.Kids[0], e.Kids[1] = e, e
	return e
}

// wide shares its memory, so that more expressions are come to than could ever be gone over.
func wide() api.Expr {
	e := ref("a")
	for range 200 {
		e = kind(api.ExpSeq, e, e)
	}
	return e
}

// deep has an expression within so many others.
func deep(n int, e api.Expr) api.Expr {
	for range n {
		e = kind(api.ExpCall, e)
	}
	return e
}

func TestWhatMayNotBe(t *testing.T) {
	inner := func(e api.Expr) api.Expr {
		return api.Expr{Kind: api.ExpLet, Names: []string{"x"}, Kids: []api.Expr{number(1), {Kind: api.ExpSet, Name: "x", Kids: []api.Expr{e}}}}
	}
	for _, e := range []api.Expr{
		{Kind: -1}, {Kind: api.ExpKinds}, {Kind: math.MaxInt}, {Kind: math.MinInt}, {Kind: api.ExpIf}, {Kind: api.ExpRef}, ref("a b"), {Name: "x"}, {Kind: api.ExpSet, Name: "x"}, {Kind: api.ExpSeq}, {Kind: api.ExpLam}, {Kind: api.ExpCall},
		{Kind: api.ExpLet}, {Kind: api.ExpRec}, {Kind: api.ExpFix}, {Kind: api.ExpLet, Names: []string{"x"}, Kids: []api.Expr{number(1)}}, {Kind: api.ExpLet, Names: []string{"x", "x"}, Kids: make([]api.Expr, 3)},
		{Kind: api.ExpLam, Names: []string{"5"}, Kids: make([]api.Expr, 1)}, {Kind: api.ExpLam, Names: make([]string, 100000), Kids: make([]api.Expr, 1)}, {Kind: api.ExpLam, Names: []string{"a", "b", "c", "d", "e", "f", "g"}, Kids: make([]api.Expr, 1)},
		{Kind: api.ExpFix, Names: []string{"x"}, Kids: make([]api.Expr, 2)}, {Kind: api.ExpSet, Kids: make([]api.Expr, 1)}, {Kind: api.ExpSet, Name: "x", Kids: make([]api.Expr, 2)}, prim("cadr", number(1)), prim("car"),
		{Const: api.Datum{Kind: api.DatVector}}, {Const: api.Datum{Kind: -1}}, {Const: api.Datum{Kind: api.DatList, List: make([]api.Datum, 1)}}, looped(), wide(),
		inner(prim("car")), inner(looped()), inner(wide()), inner(api.Expr{Kind: api.ExpLet, Names: []string{""}, Kids: make([]api.Expr, 2)}),
		kind(api.ExpSeq, make([]api.Expr, api.MaxCore)...), deep(api.MaxWithin, number(1)), deep(api.MaxWithin-2, inner(number(1))),
	} {
		if core.Check(e) == api.OK {
			t.Fatal(textOf(e))
		}
		wantForm(t, e)
	}
	for _, e := range []api.Expr{{}, kind(api.ExpSeq, make([]api.Expr, api.MaxCore-1)...), deep(api.MaxWithin-1, number(1))} {
		if out, wrong := Box(e); wrong != api.OK || !core.Equal(out, e) {
			t.Errorf("of kind %d: %v", e.Kind, wrong)
		}
	}
}

func TestTooMany(t *testing.T) {
	wantMany := func(e api.Expr) {
		t.Helper()
		if core.Check(e) != api.OK {
			t.Fatal("an expression that may not be")
		}
		if out, wrong := Box(e); wrong != api.ErrPassMany || !core.Equal(out, api.Expr{}) {
			t.Errorf("%v %.300s", wrong, textOf(out))
		}
	}
	// An ExpLet, a box and what it holds, an ExpSeq, three to set it; each time that it is asked for two.
	asked := func(n int) api.Expr {
		e := of("(let ((x 1)) (begin (set! x 1) x))")
		for range n - 1 {
			e.Kids[1].Kids = append(e.Kids[1].Kids, ref("x"))
		}
		return e
	}
	wantBoxed(t, asked(2044), "")
	wantMany(asked(2045))
	wantMany(asked(4091))
	// It is ErrPassMany only if all else is right.
	e := asked(2045)
	e.Kids[1].Kids[7] = of("(set! y 1)")
	wantForm(t, e)
	// Three for each function: itself, the ExpLet in it, and the ExpSeq.
	within := func(n int) api.Expr {
		e := of("(set! x 1)")
		for range n {
			e = api.Expr{Kind: api.ExpLam, Names: []string{"x"}, Kids: []api.Expr{kind(api.ExpSeq, of("(set! x 1)"), e)}}
		}
		return api.Expr{Kind: api.ExpLam, Names: []string{"x"}, Kids: []api.Expr{e}}
	}
	wantBoxed(t, within(82), "")
	wantMany(within(83))
	wantMany(within(123))
}

// Small ones in which as much as may be becomes more than one: of each shape as many as are small.
func TestSmall(t *testing.T) {
	for _, shape := range []string{
		"(lambda (x) (set! x inner))", "(lambda (a b c d e f) (set! a (set! b (set! c (set! d (set! e (set! f inner)))))))", "(let ((x inner)) (set! x x))", "(let ((x (set! y inner)) (y (f))) (set! x (set! y x)))", "(let ((x y) (y inner)) (set! x (set! y x)))",
		"(begin inner (let ((x (f)) (y (f))) (set! x (set! y inner))))", "(begin inner inner)", "(lambda (x) (begin (set! x y) inner))",
	} {
		e, was := of("(lambda (x) (set! x x))"), api.Expr{}
		for {
			was, e = e, with(of("(let ((y 0)) "+shape+")"), e)
			if expressions, within := size(e); expressions > 400 || within > 25 {
				break
			}
		}
		wantBoxed(t, was, "")
	}
	for n := 1; ; n++ {
		// One that is set, and asked for as often as there may be.
		e := of("(let ((x (f)) (y (f))) (begin (set! x (set! y x)) y))")
		for range n {
			e.Kids[2].Kids = append(e.Kids[2].Kids, ref("x"))
		}
		if expressions, _ := size(e); expressions > 400 {
			break
		}
		wantBoxed(t, e, "")
	}
	for n := 1; ; n++ {
		// Many that are bound at once, ahead of one that calls.
		e, body := api.Expr{Kind: api.ExpLet}, kind(api.ExpSeq, ref("z"))
		for i := range n {
			name := "x" + strconv.Itoa(i)
			e.Names, e.Kids = append(e.Names, name), append(e.Kids, number(i))
			body.Kids = append(body.Kids, api.Expr{Kind: api.ExpSet, Name: name, Kids: []api.Expr{ref(name)}})
		}
		e.Names, e.Kids = append(e.Names, "z"), append(e.Kids, of("((lambda () 1))"), body)
		if expressions, _ := size(e); expressions > 400 {
			break
		}
		wantBoxed(t, e, "")
	}
}

// with has an expression in the place of each `inner`.
func with(e, inner api.Expr) api.Expr {
	if e.Kind == api.ExpRef && e.Name == "inner" {
		return inner
	}
	out := e
	out.Kids = nil
	for _, kid := range e.Kids {
		out.Kids = append(out.Kids, with(kid, inner))
	}
	return out
}

func TestMemory(t *testing.T) {
	e := of("(let ((x '()) (y (f))) (begin (set! x (lambda (a b) (set! a (cons b '())))) (set! y (let ((z x)) z)) (fix ((m (lambda (n) n))) (m y))))")
	e.Kids[0].Const.List = make([]api.Datum, 0, 3)
	m := memory{}
	m.look(e)
	out := wantBoxed(t, e, "")
	m.look(out)
	again, _ := Box(e)
	m.look(again)
	if !core.Equal(out, again) || m.isShared() {
		t.Error("memory is shared by what comes of", textOf(e))
	}
}
