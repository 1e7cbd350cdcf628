package lift

import (
	"math"
	"scrimshaw/api"
	"scrimshaw/core"
	"slices"
	"strconv"
	"strings"
	"testing"
)

// P14.2, and of P14.3 what holds of an expression.

// wantText is that an expression becomes this program.
func wantText(t *testing.T, s, main string, funs ...string) {
	t.Helper()
	want := program(main, funs...)
	if l := wantLifted(t, of(s)); !isSame(l, want) {
		t.Errorf("Lift(%s): %s, want %s", s, textOfProgram(l), textOfProgram(want))
	}
}

func TestExamples(t *testing.T) {
	wantText(t, "(let ((x 1)) (lambda (y) (lambda () (+ x y))))", "(let ((x 1)) (clo 0 x))", "(y) (x) (clo 1 x y)", "() (x y) (+ x y)")
	wantNotLifted(t, of("x"))
	wantNotLifted(t, of("(set! x 1)"))
}

func TestFunctions(t *testing.T) {
	wantText(t, "(lambda () 1)", "(clo 0)", "() () 1")
	wantText(t, "(lambda (x) x)", "(clo 0)", "(x) () x")
	wantText(t, "(lambda (f e d c b a) (f d))", "(clo 0)", "(f e d c b a) () (f d)")
	wantText(t, "((lambda (x) (x x)) (lambda (y) (y y)))", "((clo 0) (clo 1))", "(x) () (x x)", "(y) () (y y)")
	wantText(t, "(%callcc (lambda (k) (k (lambda (x) (k x)))))", "(%callcc (clo 0))", "(k) () (k (clo 1 k))", "(x) (k) (k x)")
	// What is the same is made twice.
	wantText(t, "(begin (lambda () 1) (lambda () 1))", "(begin (clo 0) (clo 1))", "() () 1", "() () 1")
}

// Without functions it is Main, whatever kinds it has.
func TestNoFunctions(t *testing.T) {
	for _, s := range []string{"5", "#f", "()", "'a", "#\\a", "(read-u8)", "(vector-set! 1 2 3)", "(if 1 2 3)", "(begin 1 2 3 4)", "(1 2 3 4 5 6 7)", "(let () 1)", "(let ((x 1) (y 2)) (begin x y))", "(let ((x 1)) (let ((x x)) (+ x x)))"} {
		wantText(t, s, s)
	}
	l := wantLifted(t, api.Expr{})
	if len(l.Funs) != 0 || !core.Equal(l.Main, api.Expr{}) {
		t.Error(textOfProgram(l))
	}
}

// A function's place is that in the order in which they begin, whatever stands around it.
func TestOrder(t *testing.T) {
	wantText(t, "((lambda (a) (lambda (b) (lambda (c) 1))) (lambda (d) 2) (lambda (e) (lambda (f) 3)))",
		"((clo 0) (clo 3) (clo 4))", "(a) () (clo 1)", "(b) () (clo 2)", "(c) () 1", "(d) () 2", "(e) () (clo 5)", "(f) () 3")
	for _, shape := range []string{"(if S S S)", "(begin S S S)", "(S S S)", "(vector-set! S S S)", "(let ((a S) (b S)) S)", "(let () (begin S S S))", "(fix ((a S) (b S)) S)"} {
		s, want := shape, shape
		var funs []string
		for i := range 3 {
			at := strconv.Itoa(2 * i)
			s = strings.Replace(s, "S", "(lambda (p"+at+") (lambda (q) "+at+"))", 1)
			want = strings.Replace(want, "S", "(clo "+at+")", 1)
			funs = append(funs, "(p"+at+") () (clo "+strconv.Itoa(2*i+1)+")", "(q) () "+at)
		}
		wantText(t, s, want, funs...)
	}
}

// A function's Frees are those of core.Free: rising byte by byte, each once, those too that functions within it use.
func TestFrees(t *testing.T) {
	wantText(t, "(let ((b 1) (a 2) (B 3) (a. 4)) (lambda () (a. b a B (a b))))", "(let ((b 1) (a 2) (B 3) (a. 4)) (clo 0 B a a. b))", "() (B a a. b) (a. b a B (a b))")
	wantText(t, "(let ((x 1) (y 2)) (lambda (y) (lambda (z) (lambda (y) (x y z)))))", "(let ((x 1) (y 2)) (clo 0 x))", "(y) (x) (clo 1 x)", "(z) (x) (clo 2 x z)", "(y) (x z) (x y z)")
	wantText(t, "(let ((x 1)) (lambda () (let ((x x)) (lambda () x))))", "(let ((x 1)) (clo 0 x))", "() (x) (let ((x x)) (clo 1 x))", "() (x) x")
	wantText(t, "(let ((x 1)) (lambda () (let ((x 2) (y x)) x)))", "(let ((x 1)) (clo 0 x))", "() (x) (let ((x 2) (y x)) x)")
	wantText(t, "(let ((x 1)) (lambda () (let ((x 2)) x)))", "(let ((x 1)) (clo 0))", "() () (let ((x 2)) x)")
	wantText(t, "(let ((x 1)) (let ((x (lambda () x)) (y (lambda (x) x))) (lambda (z) (x y z))))", "(let ((x 1)) (let ((x (clo 0 x)) (y (clo 1))) (clo 2 x y)))", "() (x) x", "(x) () x", "(z) (x y) (x y z)")
	// A name of a primitive, or a symbol, is no free one.
	wantText(t, "(let ((car 1) (x 2)) (lambda () (car 'x)))", "(let ((car 1) (x 2)) (clo 0))", "() () (car 'x)")
	wantText(t, "(let ((x 1)) (lambda () (lambda () 'x)))", "(let ((x 1)) (clo 0))", "() () (clo 1)", "() () 'x")
}

// Functions that are bound to each other hold each other.
func TestFixes(t *testing.T) {
	wantText(t, "(fix ((f (lambda (n) (if (< n 2) 1 (* n (f (- n 1))))))) (f 12))", "(fix ((f (clo 0 f))) (f 12))", "(n) (f) (if (< n 2) 1 (* n (f (- n 1))))")
	wantText(t, "(let ((x 1)) (fix ((odd (lambda (n) (even n x))) (even (lambda (n) (odd n))) (no (lambda () 5))) (lambda () (odd no))))",
		"(let ((x 1)) (fix ((odd (clo 0 even x)) (even (clo 1 odd)) (no (clo 2))) (clo 3 no odd)))", "(n) (even x) (even n x)", "(n) (odd) (odd n)", "() () 5", "() (no odd) (odd no)")
	wantText(t, "(fix ((f (lambda (f) f))) (f f))", "(fix ((f (clo 0))) (f f))", "(f) () f")
	wantText(t, "(lambda (x) (fix ((f (lambda () (g x))) (g (lambda (g) (f (lambda () (g f)))))) g))",
		"(clo 0)", "(x) () (fix ((f (clo 1 g x)) (g (clo 2 f))) g)", "() (g x) (g x)", "(g) (f) (f (clo 3 f g))", "() (f g) (g f)")
}

// Big ones.
func TestBig(t *testing.T) {
	many := kind(api.ExpSeq)
	for range (api.MaxCore - 2) / 2 {
		many.Kids = append(many.Kids, of("(lambda () 1)"))
	}
	many.Kids = append(many.Kids, of("1"))
	within := of("1")
	for range api.MaxWithin - 1 {
		within = kind(api.ExpLam, within)
	}
	// Each of 240 functions holds 200 names.
	held := api.Expr{Kind: api.ExpLet}
	body := kind(api.ExpSeq)
	for i := range 200 {
		name := "x" + strconv.Itoa(i)
		held.Names, held.Kids, body.Kids = append(held.Names, name), append(held.Kids, of("1")), append(body.Kids, ref(name))
	}
	for range 240 {
		body = kind(api.ExpLam, body)
	}
	held.Kids = append(held.Kids, body)
	for i, e := range []api.Expr{many, within, held} {
		if core.Check(e) != api.OK {
			t.Fatal("no expression that may be")
		}
		l := wantLifted(t, e)
		if want := []int{(api.MaxCore - 2) / 2, api.MaxWithin - 1, 240}[i]; len(l.Funs) != want {
			t.Error(len(l.Funs), want)
		}
	}
}

func TestWhatMayNotBeLifted(t *testing.T) {
	shapes := []string{"S", "(begin 1 S)", "(begin S 1)", "(lambda (y) S)", "(let ((y S)) y)", "(let ((y 1)) S)", "(let ((y 1) (z S)) y)", "(if S 1 2)", "(if 1 S 2)", "(if 1 2 S)", "(S)", "(1 2 S)", "(car S)", "(fix ((f (lambda (y) S))) f)", "(fix ((f (lambda () 1))) S)", "(1 (lambda (y) (lambda () (y (if y S 1)))))"}
	wrong := []string{"x", "(x)", "(lambda () x)", "(begin (let ((x 1)) x) x)", "(let ((x x)) 1)", "(let ((x 1) (z x)) z)", "(begin (fix ((x (lambda () x))) x) x)", // free names
		"(letrec () 1)", "(letrec ((x 1)) x)", "(letrec ((x (lambda () x))) x)", "(let ((x 1)) (set! x 1))", "(lambda (x) (set! x x))", "(set! x 1)", // what changes
		"(if 1 2)", "(car)", "(begin 1)", "(lambda (x x) x)", "(lambda (a b c d e f g) a)", "(1 2 3 4 5 6 7 8)", "(let ((x 1) (x 2)) x)", "(fix ((x 1)) x)", "(fix () 1)", "'(1 2)", "#(1)"}
	for _, shape := range shapes {
		for _, s := range wrong {
			wantNotLifted(t, of(strings.ReplaceAll(shape, "S", s)))
		}
		wantNotLifted(t, of(strings.ReplaceAll(shape, "S", "(clo 0)")))
	}
}

// looped is within itself.
func looped() api.Expr {
	e := kind(api.ExpSeq, make([]api.Expr, 2)...)
	e.Kids[0], e.Kids[1] = e, e
	return e
}

// wide shares its memory, so that more expressions are come to than could ever be gone over.
func wide() api.Expr {
	e := of("1")
	for range 200 {
		e = kind(api.ExpSeq, e, e)
	}
	return e
}

// deep has an expression within so many others.
func deep(n int, e api.Expr) api.Expr {
	for range n {
		e = kind(api.ExpCall, e)
	}
	return e
}

// mayNotBe are wrong by themselves, whether they stand in an expression or in a program.
func mayNotBe() []api.Expr {
	one := make([]api.Expr, 1)
	return []api.Expr{
		{Kind: -1}, {Kind: api.ExpClo + 1}, {Kind: math.MaxInt}, {Kind: math.MinInt}, {Kind: -1, Kids: one}, {Kind: api.ExpIf}, {Kind: api.ExpRef}, ref("a b"), {Name: "x"}, {Names: []string{"x"}}, {Kids: one}, {Kind: api.ExpSeq}, {Kind: api.ExpCall}, {Kind: api.ExpLet}, {Kind: api.ExpFix},
		{Kind: api.ExpRef, Name: "x", Kids: one}, {Kind: api.ExpLet, Names: []string{"x"}, Kids: one}, {Kind: api.ExpLet, Names: []string{"x", "x"}, Kids: make([]api.Expr, 3)}, {Kind: api.ExpLet, Names: []string{""}, Kids: make([]api.Expr, 2)}, {Kind: api.ExpLet, Kids: make([]api.Expr, 2)},
		{Kind: api.ExpFix, Names: []string{"x"}, Kids: make([]api.Expr, 2)}, {Kind: api.ExpFix, Kids: one}, kind(api.ExpCall, make([]api.Expr, 8)...), kind(api.ExpIf, make([]api.Expr, 2)...), kind(api.ExpIf, make([]api.Expr, 4)...), kind(api.ExpSeq, one...), of("(car)"), of("(car 1 2)"), {Kind: api.ExpPrim, Name: "cadr", Kids: one},
		{Const: api.Datum{Kind: api.DatVector}}, {Const: api.Datum{Kind: -1}}, {Const: api.Datum{Kind: api.DatList, List: make([]api.Datum, 1)}}, {Const: api.Datum{Kind: api.DatInt, Text: "x"}}, {Const: api.Datum{Kind: api.DatInt, Int: api.MaxInt + 1}}, {Const: api.Datum{Kind: api.DatInt, List: make([]api.Datum, 1)}}, {Const: api.Datum{Kind: api.DatString}},
		{Kind: api.ExpCall, Name: "f", Kids: one}, {Kind: api.ExpIf, Names: []string{"x"}, Kids: make([]api.Expr, 3)}, {Kind: api.ExpIf, Const: api.Datum{Kind: api.DatInt}, Kids: make([]api.Expr, 3)}, {Kind: api.ExpIf, Const: api.Datum{List: make([]api.Datum, 1)}, Kids: make([]api.Expr, 3)}, {Kind: api.ExpLet, Name: "x", Kids: one},
		{Kind: api.ExpLam, Names: make([]string, 100000), Kids: one}, {Kind: api.ExpLet, Names: make([]string, 100000), Kids: one}, {Kind: api.ExpSeq, Names: make([]string, 100000), Kids: make([]api.Expr, 2)},
	}
}

func TestWhatMayNotBe(t *testing.T) {
	for _, e := range append(mayNotBe(), looped(), wide(), kind(api.ExpSeq, make([]api.Expr, api.MaxCore)...), deep(api.MaxWithin, of("1")), api.Expr{Kind: api.ExpClo}, clo(0, "x")) {
		wantNotLifted(t, e)
		wantNotLifted(t, kind(api.ExpSeq, of("(lambda (x) x)"), kind(api.ExpLam, e)))
	}
	// A name that is none is not bound by one that is the same.
	wantNotLifted(t, api.Expr{Kind: api.ExpLam, Names: []string{"5"}, Kids: []api.Expr{ref("5")}})
}

func TestMemory(t *testing.T) {
	e := of("(let ((x '()) (y 1)) (begin (lambda (a b) (lambda (c) (a b c x y '()))) (fix ((f (lambda (z) (g x z))) (g (lambda () (f y)))) (f '()))))")
	e.Kids[0].Const.List = make([]api.Datum, 0, 3)
	m := memory{}
	m.look(e)
	l := wantLifted(t, e)
	m.lookProgram(l)
	again, _ := Lift(e)
	m.lookProgram(again)
	for range 2 {
		back, _ := Lower(l)
		m.look(back)
	}
	if !isSame(l, again) || m.isShared() {
		t.Error("memory is shared by what comes of", textOf(e))
	}
	// Neither where parts of what is handed in are one.
	part := of("(lambda (x y) (lambda () (x y '())))")
	shared := kind(api.ExpSeq, part, kind(api.ExpIf, part, part, part), part)
	l = wantLifted(t, shared)
	m = memory{}
	m.lookProgram(l)
	names, one := []string{"x"}, of("1")
	l = program("(let ((x 1)) (begin (clo 0 x) (clo 1 x)))", "() (x) 1", "() (x) 1")
	for i := range l.Funs {
		l.Main.Kids[1].Kids[i].Names, l.Funs[i].Frees, l.Funs[i].Body = names, names, kind(api.ExpSeq, one, one)
	}
	l.Main.Names = names
	back := wantRight(t, l)
	m.look(back)
	if m.isShared() {
		t.Error("memory is shared by what comes of", textOf(shared), "or of", textOfProgram(l))
	}
}

// What is asked for again is as it was the first time.
func TestNothingIsKept(t *testing.T) {
	e := of("(let ((x 1)) (lambda (y) (lambda () (+ x y))))")
	want := wantLifted(t, e)
	Lift(of("(lambda () (lambda () 1))"))
	Lower(program("(clo 0)", "() () (clo 1)", "() () 5"))
	if l, _ := Lift(e); !isSame(l, want) || !slices.Equal(l.Funs[1].Frees, []string{"x", "y"}) {
		t.Error(textOfProgram(l))
	}
}
