package fold

import (
	"math"
	"scrimshaw/api"
	"scrimshaw/core"
	"scrimshaw/model"
	"slices"
	"strconv"
	"strings"
	"testing"
)

// What is known, rule by rule.

func wantText(t *testing.T, s, want string) {
	t.Helper()
	out := wantFolded(t, of(s), "xy")
	if !core.Equal(out, of(want)) {
		t.Errorf("Fold(%s): %s, want %s", s, textOf(out), want)
	}
}

// wantKept is that an expression is folded already.
func wantKept(t *testing.T, s string) {
	t.Helper()
	wantText(t, s, s)
}

func TestExamples(t *testing.T) {
	wantText(t, "(if (< 1 2) (+ x 1) (f))", "(+ x 1)")
	wantText(t, "(let ((x 2) (y z)) (begin x (* x y)))", "(let ((y z)) (* 2 y))")
	wantKept(t, "(quotient 1 0)")
}

func TestPrimitives(t *testing.T) {
	for s, want := range map[string]string{
		"(+ 1 2)": "3", "(- 1 2)": "-1", "(* -3 4)": "-12", "(quotient -7 2)": "-3", "(remainder -7 2)": "-1", "(remainder 7 -2)": "1",
		"(< 1 2)": "#t", "(< 2 1)": "#f", "(< 1 1)": "#f", "(= 1 1)": "#t", "(= 1 2)": "#f",
		"(eq? 1 1)": "#t", "(eq? 'a 'a)": "#t", "(eq? 'a 'b)": "#f", "(eq? () ())": "#t", "(eq? #f ())": "#f", "(eq? 0 #\\a)": "#f", "(eq? #t #t)": "#t", "(eq? #f #t)": "#f", "(eq? 97 #\\a)": "#f",
		"(null? ())": "#t", "(null? #f)": "#f", "(symbol? 'a)": "#t", "(symbol? 1)": "#f", "(char? #\\a)": "#t", "(char? 97)": "#f", "(integer? 0)": "#t", "(integer? #\\a)": "#f", "(boolean? #f)": "#t", "(boolean? ())": "#f",
		"(pair? ())": "#f", "(vector? 1)": "#f", "(string? 'a)": "#f", "(procedure? 'car)": "#f",
		"(char->integer #\\a)": "97", "(integer->char 97)": "#\\a", "(char->integer (integer->char 255))": "255", "(char->integer (integer->char 0))": "0",
		"(+ 1152921504606846975 0)": "1152921504606846975", "(+ 1152921504606846974 1)": "1152921504606846975", "(- -1152921504606846975 1)": "-1152921504606846976", "(* -1152921504606846976 1)": "-1152921504606846976",
		"(+ (* 2 3) (- 10 (quotient 9 2)))": "12", "(+ x (+ 1 2))": "(+ x 3)", "(cons (+ 1 2) (read-u8))": "(cons 3 (read-u8))", "(f (+ 1 1) (eq? 'a 'a))": "(f 2 #t)",
		"(lambda (x) (+ 1 2))": "(lambda (x) 3)", "(set! x (+ 1 2))": "(set! x 3)", "(fix ((g (lambda () (+ 1 2)))) (+ 3 4))": "(fix ((g (lambda () 3))) 7)", "(begin (f) (+ 1 2))": "(begin (f) 3)",
	} {
		wantText(t, s, want)
	}
}

// What goes wrong goes wrong when it is run.
func TestPrimitivesThatFail(t *testing.T) {
	for _, s := range []string{
		"(quotient 1 0)", "(remainder 1 0)", "(quotient -1152921504606846976 -1)", "(+ 1152921504606846975 1)", "(- -1152921504606846976 1)", "(* 1152921504606846975 2)", "(* 1073741824 1073741824)",
		"(+ 1 #t)", "(- 'a 1)", "(* () ())", "(quotient #\\a 1)", "(remainder 1 #f)", "(< 1 #\\a)", "(= 'a 'a)", "(char->integer 97)", "(integer->char #\\a)", "(integer->char 256)", "(integer->char -1)",
		"(+ 1 (quotient 1 0))", "(if (= 'a 1) 1 2)", "(begin (+ 1 'a) 2)", "(let ((x (quotient 1 0))) 5)",
	} {
		wantKept(t, s)
	}
	wantText(t, "(quotient (+ 1 1) (- 1 1))", "(quotient 2 0)")
}

// No other primitive is ready, whatever it has.
func TestOtherPrimitives(t *testing.T) {
	names := strings.Fields("read-u8 error void %winders %unset eof-object? car cdr vector-length string-length write-u8 %box %unbox %wind! %callcc cons set-car! set-cdr! make-vector vector-ref make-string string-ref %set-box! vector-set! string-set!")
	for _, name := range names {
		for _, constant := range []string{"1", "#f", "#\\a", "'a", "()"} {
			if name != "%callcc" && !slices.Contains(ready, name) {
				e := prim(name)
				for range core.Arity(name) {
					e.Kids = append(e.Kids, of(constant))
				}
				if out := wantFolded(t, e, "xy"); !core.Equal(out, e) {
					t.Error(textOf(e), textOf(out))
				}
			}
		}
	}
	for _, name := range ready {
		for _, other := range []string{"x", "(read-u8)", "(lambda () 1)", "(void)"} {
			for i := range core.Arity(name) {
				e := prim(name)
				for range core.Arity(name) {
					e.Kids = append(e.Kids, number(1))
				}
				e.Kids[i] = of(other)
				if out := wantFolded(t, e, "xy"); !core.Equal(out, e) {
					t.Error(textOf(e), textOf(out))
				}
			}
		}
	}
}

func TestIfs(t *testing.T) {
	wantText(t, "(if #f (f) (g))", "(g)")
	for _, s := range []string{"#t", "0", "1", "()", "'a", "#\\a"} {
		wantText(t, "(if "+s+" (f) (g))", "(f)")
	}
	wantText(t, "(if (if (= 1 2) 3 #f) a (if 5 b c))", "b")
	wantText(t, "(if x (if #f a b) (if #t c d))", "(if x b c)")
	wantText(t, "(if (null? ()) (if (f) a b) c)", "(if (f) a b)")
	wantText(t, "(if (let () #f) a b)", "b")
	wantText(t, "(if (begin x #f) a b)", "b")
	wantText(t, "(if #t (lambda (a) (if #f a b)) c)", "(lambda (a) b)")
	for _, s := range []string{"(if x 1 2)", "(if (begin (f) #f) 1 2)", "(if (void) 1 2)", "(if (lambda () 1) 1 2)", "(if (eof-object? 1) 1 2)", "(if (let ((x (f))) #t) 1 2)"} {
		wantKept(t, s)
	}
	// What is not taken may be wrong however it likes.
	wantText(t, "(if #f (error) (if 1 2 ((car 1))))", "2")
}

func TestSequences(t *testing.T) {
	wantText(t, "(begin 1 2)", "2")
	wantText(t, "(begin x y)", "y")
	wantText(t, "(begin (lambda () (f)) x 1 'a () #f (f) (lambda (x) x) 5)", "(begin (f) 5)")
	wantText(t, "(begin (f) 1 (g) x)", "(begin (f) (g) x)")
	wantText(t, "(begin (begin (f) 1) 2)", "(begin (f) 2)")
	wantText(t, "(begin 1 (begin 2 3))", "3")
	wantText(t, "(begin 1 (begin (f) 3))", "(begin (f) 3)")
	wantText(t, "(begin (f) (begin (g) (begin (h) (begin 1 x))))", "(begin (f) (g) (h) x)")
	wantText(t, "(begin (begin (begin (f) (g)) (h)) 1)", "(begin (f) (g) (h) 1)")
	wantText(t, "(begin (begin (f) (g)) (begin (h) (f)) (begin (g) (h)))", "(begin (f) (g) (h) (f) (g) (h))")
	wantText(t, "(begin (if #t (begin (f) 1) 2) (let () (begin 3 (g))))", "(begin (f) (g))")
	wantText(t, "(begin (+ 1 2) (f))", "(f)")
	wantText(t, "(begin (if #f (f) x) (let ((y 1)) y) 2)", "2")
	wantText(t, "(begin (lambda (x) x) (lambda (y) y))", "(lambda (y) y)")
	for _, s := range []string{"(begin (f) 1)", "(begin (read-u8) x)", "(begin (void) (void))", "(begin (car x) 1)", "(begin (eof-object? 1) 1)", "(begin (set! x 1) 1)", "(begin (if x 1 2) 3)", "(begin (let ((x (f))) 1) 2)", "(begin (fix ((f (lambda () 1))) 1) 2)"} {
		wantKept(t, s)
	}
}

func TestLets(t *testing.T) {
	wantText(t, "(let () x)", "x")
	wantText(t, "(let () (let () (f)))", "(f)")
	wantText(t, "(let ((x 1)) x)", "1")
	wantText(t, "(let ((x 1)) 2)", "2")
	wantText(t, "(let ((x '())) (cons x x))", "(cons () ())")
	wantText(t, "(let ((x 'a) (y #\\b) (z #f)) (f x y z))", "(f 'a #\\b #f)")
	wantText(t, "(let ((x (f)) (y 1) (z (g)) (w 2)) (h x y z w))", "(let ((x (f)) (z (g))) (h x 1 z 2))")
	wantText(t, "(let ((x (+ 1 2))) (let ((y (* x x))) (let ((z (- y x))) (f x y z))))", "(f 3 9 6)")
	wantText(t, "(let ((x 1)) (lambda (y) (lambda (z) (+ x y))))", "(lambda (y) (lambda (z) (+ 1 y)))")
	wantText(t, "(let ((x 1)) (fix ((f (lambda (y) (f x)))) (f x)))", "(fix ((f (lambda (y) (f 1)))) (f 1))")
	wantText(t, "(let ((x 1)) (set! y x))", "(set! y 1)")
	wantText(t, "(let ((x 1)) (x x))", "(1 1)")
	wantText(t, "(let ((x 1) (y (f x))) (g x y))", "(let ((y (f x))) (g 1 y))")
	wantText(t, "(let ((x 5) (y x)) (+ x y))", "(let ((y x)) (+ 5 y))")
	wantText(t, "(let ((x 2)) (let ((y x)) (let ((z y)) (if (< z 3) (f z) (g z)))))", "(f 2)")
	wantText(t, "(let ((x (let ((y 1)) y))) (let ((z (if x 2 3))) (begin z (f z))))", "(f 2)")
	wantText(t, "(let ((f (lambda () 1)) (x 1)) (f x))", "(let ((f (lambda () 1))) (f 1))")
	for _, s := range []string{"(let ((x y)) x)", "(let ((x (f))) 1)", "(let ((x (lambda () 1))) (x))", "(let ((x (void)) (y (%unset))) (f x y))", "((lambda (x) x) 1)", "(let ((x (eof-object? 1))) x)"} {
		wantKept(t, s)
	}
}

// Others of the same name.
func TestHiddenNames(t *testing.T) {
	wantText(t, "(let ((x 1)) (lambda (x) x))", "(lambda (x) x)")
	wantText(t, "(let ((x 1)) (begin (f (lambda (x y) (+ x y))) x))", "(begin (f (lambda (x y) (+ x y))) 1)")
	wantText(t, "(let ((x 1)) (f (lambda (y) x) (lambda (x) x) x))", "(f (lambda (y) 1) (lambda (x) x) 1)")
	wantText(t, "(let ((x 1)) (let ((x (f x))) x))", "(let ((x (f 1))) x)")
	wantText(t, "(let ((x 1)) (f (let ((x (f x))) x) x))", "(f (let ((x (f 1))) x) 1)")
	wantText(t, "(let ((x 1)) (let ((y x) (x (f y))) (g x y)))", "(let ((x (f y))) (g x 1))")
	wantText(t, "(let ((x 1)) (begin (let ((x 2)) (f x)) (f x)))", "(begin (f 2) (f 1))")
	wantText(t, "(let ((x 1)) (begin (let ((x (+ x 1))) (f x)) (f x)))", "(begin (f 2) (f 1))")
	wantText(t, "(let ((x 1)) (begin (fix ((x (lambda () (f x)))) (g x)) (f x)))", "(begin (fix ((x (lambda () (f x)))) (g x)) (f 1))")
	wantText(t, "(let ((x (f))) (begin (let ((x 2)) (g x)) (g x)))", "(let ((x (f))) (begin (g 2) (g x)))")
	wantText(t, "(let ((x y)) (let ((y 1)) (f x y)))", "(let ((x y)) (f x 1))")
	wantText(t, "(let ((x 1) (y (let ((x 2)) (f x)))) (g x y))", "(let ((y (f 2))) (g 1 y))")
	wantText(t, "(let ((x 1)) (let ((x (f))) (let ((y x)) (let ((x 3)) (f x y)))))", "(let ((x (f))) (let ((y x)) (f 3 y)))")
	wantText(t, "(begin (f (let ((x 1)) x)) x)", "(begin (f 1) x)")
	wantText(t, "(let ((x 1) (z (f))) (let ((z 2) (w x)) (f z w x)))", "(let ((z (f))) (f 2 1 1))")
}

func TestAssignedNames(t *testing.T) {
	for _, s := range []string{
		"(let ((x 1)) (begin (set! x 2) x))", "(let ((x 1)) (set! x x))", "(let ((x 1)) (lambda () (set! x 2)))", "(let ((x 1)) (begin (f (lambda (y) (set! x y))) x))", "(let ((x 1)) (let ((y (set! x 2))) x))", "(let ((x 1)) (let ((x (set! x 2))) x))",
		"(let ((x 1)) (if (f) (set! x 2) x))", "(let ((x 1)) (fix ((f (lambda () (set! x 2)))) (f)))", "(let ((x #f)) (if x (set! x 1) (f x)))", "(let ((x 1)) (while x (set! x 2)))", "(set! x 1)", "(fix ((f (lambda () 1))) (set! f 2))",
	} {
		wantKept(t, s)
	}
	wantText(t, "(let ((x 1) (y 2)) (begin (set! x y) (f x y)))", "(let ((x 1)) (begin (set! x 2) (f x 2)))")
	// What is set is another one.
	wantText(t, "(let ((x 1)) (let ((x (f))) (begin (set! x 2) x)))", "(let ((x (f))) (begin (set! x 2) x))")
	wantText(t, "(let ((x 1)) (begin (f (lambda (x) (set! x 2))) x))", "(begin (f (lambda (x) (set! x 2))) 1)")
	wantText(t, "(let ((x 1)) (let ((x x)) (begin (set! x 2) x)))", "(let ((x 1)) (begin (set! x 2) x))")
	wantText(t, "(let ((x 1) (y (set! x 3))) (f x y))", "(let ((y (set! x 3))) (f 1 y))")
	wantText(t, "(let ((x 1)) (fix ((x (lambda () (set! x 2)))) x))", "(fix ((x (lambda () (set! x 2)))) x)")
	// An inner one means the constant, though an outer one of the name is set, and the other way round.
	wantText(t, "(let ((x 1)) (begin (set! x 2) (let ((x 3)) (f x)) x))", "(let ((x 1)) (begin (set! x 2) (f 3) x))")
	wantText(t, "(let ((x 1)) (begin (let ((x 3)) (begin (set! x 4) (f x))) x))", "(begin (let ((x 3)) (begin (set! x 4) (f x))) 1)")
}

// Where the places in which names were set are gone, they mean constants after all.
func TestNoMoreAssignedNames(t *testing.T) {
	wantText(t, "(let ((x 1)) (if #f (set! x 2) x))", "1")
	wantText(t, "(let ((x 1)) (begin (lambda () (set! x 2)) x))", "1")
	wantText(t, "(let ((x 1)) (begin (if #t 1 (set! x 2)) (if (= x 1) (f) (g))))", "(f)")
	wantText(t, "(let ((x 1) (y 2)) (begin (if (= y 2) 0 (set! x 2)) (f (+ x y))))", "(f 3)")
	wantText(t, "(let ((x 1) (y 2)) (begin (if (= x 1) 0 (set! y 2)) (if (= y 2) 0 (set! x 2)) (f x y)))", "(let ((x 1) (y 2)) (begin (if (= x 1) 0 (set! y 2)) (if (= y 2) 0 (set! x 2)) (f x y)))")
	wantText(t, "(let ((x 1)) (let ((y 2)) (let ((z 3)) (begin (if z 0 (set! y 1)) (if y 0 (set! x 1)) (f x y z)))))", "(f 1 2 3)")
	wantText(t, "(let ((x 1)) (let ((y 2)) (begin (if x 0 (set! y 1)) (if y 0 (lambda () (set! x 1))) (f x y))))", "(let ((x 1)) (let ((y 2)) (begin (if x 0 (set! y 1)) (if y 0 (lambda () (set! x 1))) (f x y))))")
	wantText(t, "(let ((x 1)) (begin (let ((y x)) (begin (f (lambda () (set! y 2))) y)) (if #f (set! x 2) x)))", "(begin (let ((y 1)) (begin (f (lambda () (set! y 2))) y)) 1)")
	wantText(t, "(let ((x #f)) (begin (let ((y 1)) (begin (if x (set! y 2) y) (f y))) (if 1 2 (set! x 3))))", "(begin (f 1) 2)")
	// A name that is hidden while this comes to be known.
	wantText(t, "(let ((x 1)) (begin (if #f (set! x 2) (f (lambda (x) x) (let ((x (g))) x))) x))", "(begin (f (lambda (x) x) (let ((x (g))) x)) 1)")
	wantText(t, "(let ((x 1)) (let ((x 2)) (begin (if #f (set! x 3) (f x)) x)))", "(begin (f 2) 2)")
}

// chain has many names, each of which is set as long as the one ahead of it is no constant.
func chain(n int) api.Expr {
	e, body := api.Expr{Kind: api.ExpLet}, kind(api.ExpSeq)
	for i := range n {
		name := "x" + strconv.Itoa(i)
		e.Names, e.Kids = append(e.Names, name), append(e.Kids, number(i))
		if i > 0 {
			set := api.Expr{Kind: api.ExpSet, Name: name, Kids: []api.Expr{number(0)}}
			body.Kids = append(body.Kids, kind(api.ExpIf, ref("x"+strconv.Itoa(i-1)), number(1), set))
		}
	}
	body.Kids = append(body.Kids, ref(e.Names[n-1]))
	e.Kids = append(e.Kids, body)
	return e
}

func TestChains(t *testing.T) {
	if out := wantFolded(t, chain(500), ""); !core.Equal(out, number(499)) {
		t.Error(textOf(out))
	}
	e := chain(500)
	e.Kids[0] = of("(read-u8)")
	if out := wantFolded(t, e, "a"); !core.Equal(out, e) {
		t.Error(textOf(out))
	}
}

func TestOutcomes(t *testing.T) {
	for s, want := range map[string]string{
		"(let ((x 1) (k (%callcc (lambda (k) k)))) (if (procedure? k) (k (+ x 4)) (+ x k)))":                      "6",
		"(let ((x 1) (k (%callcc (lambda (k) k)))) (begin (set! x (+ x 1)) (if (procedure? k) (k 5) x)))":         "2",
		"(let ((x 1)) (let ((k (%callcc (lambda (k) k)))) (begin (set! x (+ x 1)) (if (procedure? k) (k 5) x))))": "3",
		"(fix ((f (lambda (n) (let ((one 1) (no 0)) (if (< n one) no (+ n (f (- n one)))))))) (f 10))":            "55",
		"(let ((a 10) (b 3)) (cons (quotient a b) (remainder a b)))":                                              "(3 . 1)",
		"(let ((x 5)) (cons x ((lambda (x) (* x x)) (+ x 1))))":                                                   "(5 . 36)",
		"(let ((x 1)) (begin (write-u8 65) x (write-u8 (+ 65 x)) (begin (write-u8 67) 'done)))":                   "done",
	} {
		e := of(s)
		for _, e := range []api.Expr{e, wantFolded(t, e, "")} {
			if o := model.Run(e, "", enough); o.Err != api.OK || textOfShown(o) != want {
				t.Errorf("%s: %v, want %s", textOf(e), o, want)
			}
		}
	}
}

// Errors, and what is written ahead of them, come where they came.
func TestErrors(t *testing.T) {
	for s, want := range map[string]api.Errno{
		"(begin (write-u8 65) (+ 1 'a) (write-u8 66))":                      api.ErrRunType,
		"(let ((x 0)) (begin (write-u8 65) (quotient 1 x)))":                api.ErrRunZero,
		"(let ((big 1152921504606846975)) (begin (write-u8 65) (+ big 1)))": api.ErrRunOver,
		"(let ((x 256)) (begin (write-u8 65) (write-u8 x)))":                api.ErrRunRange,
		"(let ((x 1)) (x))":                                                api.ErrRunProc,
		"(let ((x 1)) ((lambda () (write-u8 65)) x))":                      api.ErrRunCount,
		"(begin (if (< 2 1) 0 (write-u8 65)) (error) (write-u8 66))":       api.ErrRunUser,
		"(let ((x (error)) (y 2)) (begin x y))":                            api.ErrRunUser,
		"(let ((x 1)) (begin (if (integer->char 256) x 2) (write-u8 65)))": api.ErrRunRange,
	} {
		e := of(s)
		if o := model.Run(e, "", enough); o.Err != want {
			t.Errorf("%s: %v", s, o)
		}
		wantFolded(t, e, "")
	}
}

// P12.2
func TestAsItWas(t *testing.T) {
	for _, s := range []string{
		"5", "#t", "()", "#\\a", "(quote a)", "x", "(if x y z)", "(begin (f) y)", "(lambda () 1)", "(lambda (a b c d e f) (a b))", "(f)", "(f 1 2 3 4 5 6)", "(read-u8)", "(vector-set! a b c)", "(%set-box! (%box x) (%unbox y))", "(set! x (f))",
		"(let ((x (f)) (y z)) (g x y))", "(fix ((f (lambda () 1))) f)", "(fix ((f (lambda (f) f)) (g (lambda () (f 2)))) (let ((g (f))) g))", "(let ((x (%callcc (lambda (k) k)))) (x x))", "(let ((x 1)) (begin (set! x (+ x 1)) x))",
	} {
		wantKept(t, s)
	}
	for _, d := range []api.Datum{{Kind: api.DatList, List: []api.Datum{}}, {Kind: api.DatList, List: make([]api.Datum, 0, 5)}} {
		if out, wrong := Fold(api.Expr{Const: d}); wrong != api.OK || out.Kind != api.ExpQuote || out.Const.Kind != api.DatList || len(out.Const.List) != 0 {
			t.Error(out, wrong)
		}
	}
}

func TestRecs(t *testing.T) {
	for _, s := range []string{"(letrec () 5)", "(letrec ((x 1)) x)", "(letrec ((x (lambda () x))) x)", "(if #f (letrec () 1) 2)", "(begin (lambda () (letrec ((x 1)) x)) 1)", "(let ((x (letrec () 1))) x)", "(set! x (letrec ((y 1)) y))", "(fix ((f (lambda () (letrec () f)))) f)"} {
		wantForm(t, of(s))
	}
}

// looped is within itself.
func looped() api.Expr {
	e := kind(api.ExpSeq, make([]api.Expr, 2)...)
	e.Kids[0], e.Kids[1] = e, e
	return e
}

// wide shares its memory, so that more expressions are come to than could ever be gone over.
func wide() api.Expr {
	e := ref("a")
	for range 200 {
		e = kind(api.ExpSeq, e, e)
	}
	return e
}

// deep has an expression within so many others.
func deep(n int, e api.Expr) api.Expr {
	for range n {
		e = kind(api.ExpCall, e)
	}
	return e
}

func TestWhatMayNotBe(t *testing.T) {
	inner := func(e api.Expr) api.Expr { return kind(api.ExpIf, of("#f"), e, number(1)) }
	for _, e := range []api.Expr{
		{Kind: -1}, {Kind: api.ExpKinds}, {Kind: math.MaxInt}, {Kind: math.MinInt}, {Kind: api.ExpIf}, {Kind: api.ExpRef}, ref("a b"), {Name: "x"}, {Kind: api.ExpSet, Name: "x"}, {Kind: api.ExpSeq}, kind(api.ExpSeq, number(1)), {Kind: api.ExpLam}, {Kind: api.ExpCall},
		{Kind: api.ExpLet}, {Kind: api.ExpRec}, {Kind: api.ExpFix}, {Kind: api.ExpLet, Names: []string{"x"}, Kids: []api.Expr{number(1)}}, {Kind: api.ExpLet, Names: []string{"x", "x"}, Kids: make([]api.Expr, 3)},
		{Kind: api.ExpLam, Names: []string{"5"}, Kids: make([]api.Expr, 1)}, {Kind: api.ExpLam, Names: make([]string, 100000), Kids: make([]api.Expr, 1)}, {Kind: api.ExpLam, Names: []string{"a", "b", "c", "d", "e", "f", "g"}, Kids: make([]api.Expr, 1)},
		{Kind: api.ExpFix, Names: []string{"x"}, Kids: make([]api.Expr, 2)}, {Kind: api.ExpSet, Kids: make([]api.Expr, 1)}, {Kind: api.ExpSet, Name: "x", Kids: make([]api.Expr, 2)}, prim("cadr", number(1)), prim("car"), prim("+", number(1)), prim("+", number(1), number(2), number(3)), prim("+", number(1), number(api.MaxInt+1)),
		{Const: api.Datum{Kind: api.DatVector}}, {Const: api.Datum{Kind: api.DatString}}, {Const: api.Datum{Kind: -1}}, {Const: api.Datum{Kind: api.DatList, List: make([]api.Datum, 1)}}, looped(), wide(),
		inner(prim("car")), inner(looped()), inner(wide()), inner(api.Expr{Kind: api.ExpLet, Names: []string{""}, Kids: make([]api.Expr, 2)}),
		kind(api.ExpSeq, make([]api.Expr, api.MaxCore)...), deep(api.MaxWithin, number(1)), deep(api.MaxWithin-1, inner(number(1))),
	} {
		if core.Check(e) == api.OK {
			t.Fatal(textOf(e))
		}
		wantForm(t, e)
	}
}

// The biggest and the deepest that may be; nothing is ever too many (ErrPassMany is not told).
func TestBig(t *testing.T) {
	if out := wantFolded(t, kind(api.ExpSeq, make([]api.Expr, api.MaxCore-1)...), ""); !core.Equal(out, api.Expr{}) {
		t.Error(textOf(out))
	}
	calls := kind(api.ExpSeq)
	for range (api.MaxCore - 1) / 2 {
		calls.Kids = append(calls.Kids, of("(f)"))
	}
	for _, e := range []api.Expr{{}, calls, deep(api.MaxWithin-1, number(1))} {
		if out := wantFolded(t, e, ""); !core.Equal(out, e) {
			t.Errorf("of kind %d", e.Kind)
		}
	}
	sum, seq, lets, sets := number(1), of("(f)"), ref("x"), of("(set! x 2)")
	for i := range (api.MaxWithin - 2) / 2 {
		sum = prim("+", number(i), prim("-", sum, number(i)))
		seq = kind(api.ExpSeq, kind(api.ExpSeq, ref("x"), seq, of("(g)")), of("(f)"))
		lets = api.Expr{Kind: api.ExpLet, Names: []string{"x"}, Kids: []api.Expr{number(i), kind(api.ExpCall, lets, ref("x"))}}
		sets = api.Expr{Kind: api.ExpLet, Names: []string{"x"}, Kids: []api.Expr{number(i), kind(api.ExpSeq, sets, of("(set! x x)"), of("(f x)"))}}
	}
	if out := wantFolded(t, sum, ""); !core.Equal(out, number(1)) {
		t.Error(textOf(out))
	}
	if out := wantFolded(t, seq, ""); len(out.Kids) != api.MaxWithin-1 || has(kind(api.ExpCall, out.Kids...), api.ExpSeq) {
		t.Error(textOf(out))
	}
	if out := wantFolded(t, lets, ""); has(out, api.ExpRef) || size(out) != api.MaxWithin-1 {
		t.Error(textOf(out))
	}
	wantFolded(t, sets, "")
	names := api.Expr{Kind: api.ExpLet}
	for i := range (api.MaxCore - 1) / 2 {
		names.Names, names.Kids = append(names.Names, "x"+strconv.Itoa(i)), append(names.Kids, number(i))
	}
	names.Kids = append(names.Kids, ref("x77"))
	if out := wantFolded(t, names, ""); !core.Equal(out, number(77)) {
		t.Error(textOf(out))
	}
}

func TestMemory(t *testing.T) {
	e := of("(let ((x '()) (y (f)) (z (+ 1 2))) (begin x (set! y (lambda (a b) (begin (set! a (cons b x)) (begin (f x z) x)))) (fix ((m (lambda (n) (if z n x)))) (m y x (let () x)))))")
	e.Kids[0].Const.List = make([]api.Datum, 0, 3)
	m := memory{}
	m.look(e)
	out := wantFolded(t, e, "")
	m.look(out)
	again, _ := Fold(e)
	m.look(again)
	if !core.Equal(out, again) || m.isShared() {
		t.Error("memory is shared by what comes of", textOf(e))
	}
}
