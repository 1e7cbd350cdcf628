package anf

import (
	"math"
	"scrimshaw/api"
	"scrimshaw/core"
	"scrimshaw/model"
	"slices"
	"strconv"
	"strings"
	"testing"
)

// What is named, kind by kind (by a way like the chapter's: one ExpLet for all that an expression wants to be simple).

func wantText(t *testing.T, s, want string) {
	t.Helper()
	out := wantNamed(t, of(s), "xy")
	if !core.Equal(out, of(want)) {
		t.Errorf("Name(%s): %s, want %s", s, textOf(out), want)
	}
	if other := joined(otherName(of(s))); !core.Equal(core.Rename(other), core.Rename(out)) {
		t.Errorf("Name(%s): %s; the other way %s", s, textOf(out), textOf(other))
	}
}

// wantKept is that an expression is named already.
func wantKept(t *testing.T, s string) {
	t.Helper()
	wantText(t, s, s)
}

func TestExamples(t *testing.T) {
	wantText(t, "(f (g x) (+ 1 (h)))", "(let ((n.0 (g x)) (n.1 (let ((n.2 (h))) (+ 1 n.2)))) (f n.0 n.1))")
	wantForm(t, of("(set! x 1)"))
}

// unsimples are one of each kind that is not simple.
var unsimples = strings.Split("(if x 1 2)|(begin (g) 1)|(lambda () 1)|(lambda (x y) x)|(g)|(g x 1)|(read-u8)|(+ x 1)|(let () 1)|(let ((x 1)) x)|(fix ((h (lambda () 1))) h)", "|")

var simples = []string{"x", "5", "#t", "()", "'a", "#\\a"}

func TestCalls(t *testing.T) {
	for _, s := range unsimples {
		wantText(t, "("+s+")", "(let ((n.0 "+s+")) (n.0))")
		wantText(t, "(f "+s+")", "(let ((n.0 "+s+")) (f n.0))")
		wantText(t, "(f "+s+" x 1 "+s+" y "+s+")", "(let ((n.0 "+s+") (n.1 "+s+") (n.2 "+s+")) (f n.0 x 1 n.1 y n.2))")
		wantText(t, "("+s+" a b c d e "+s+")", "(let ((n.0 "+s+") (n.1 "+s+")) (n.0 a b c d e n.1))")
	}
	for _, s := range simples {
		wantKept(t, "("+s+")")
		wantKept(t, "("+s+" "+s+" f "+s+" 1 "+s+" "+s+")")
		wantText(t, "("+s+" (g) "+s+")", "(let ((n.0 (g))) ("+s+" n.0 "+s+"))")
	}
	wantText(t, "((f) (f) (f) (f) (f) (f) (f))", "(let ((n.0 (f)) (n.1 (f)) (n.2 (f)) (n.3 (f)) (n.4 (f)) (n.5 (f)) (n.6 (f))) (n.0 n.1 n.2 n.3 n.4 n.5 n.6))")
	wantText(t, "(f (f (f (f x))))", "(let ((n.0 (let ((n.1 (let ((n.2 (f x))) (f n.2)))) (f n.1)))) (f n.0))")
	wantText(t, "((((f) x) y) z)", "(let ((n.0 (let ((n.1 (let ((n.2 (f))) (n.2 x)))) (n.1 y)))) (n.0 z))")
	wantText(t, "((lambda (x) (f (g x))) (lambda (y) (f (g y))))", "(let ((n.0 (lambda (x) (let ((n.2 (g x))) (f n.2)))) (n.1 (lambda (y) (let ((n.3 (g y))) (f n.3))))) (n.0 n.1))")
}

// primitives are all of the chapter of the core's.
var primitives = strings.Fields("read-u8 error void %winders %unset null? pair? vector? string? symbol? char? integer? boolean? procedure? eof-object? car cdr vector-length string-length char->integer integer->char write-u8 %box %unbox %wind! %callcc " +
	"+ - * quotient remainder < = eq? cons set-car! set-cdr! make-vector vector-ref make-string string-ref %set-box! vector-set! string-set!")

func TestPrimitives(t *testing.T) {
	for _, name := range primitives {
		arity := core.Arity(name)
		wantKept(t, "("+name+strings.Repeat(" x", arity)+")")
		wantKept(t, "("+name+strings.Repeat(" 5", arity)+")")
		for i := range arity {
			for _, s := range unsimples {
				at := func(s string) string {
					return "(" + name + strings.Repeat(" x", i) + " " + s + strings.Repeat(" 1", arity-i-1) + ")"
				}
				wantText(t, at(s), "(let ((n.0 "+s+")) "+at("n.0")+")")
			}
		}
	}
	wantText(t, "(cons (f) (g))", "(let ((n.0 (f)) (n.1 (g))) (cons n.0 n.1))")
	wantText(t, "(vector-set! (f) 1 (g))", "(let ((n.0 (f)) (n.1 (g))) (vector-set! n.0 1 n.1))")
	wantText(t, "(+ (* 2 3) (if (null? ()) (- 9 2) 0))", "(let ((n.0 (* 2 3)) (n.1 (let ((n.2 (null? ()))) (if n.2 (- 9 2) 0)))) (+ n.0 n.1))")
	wantText(t, "(%callcc (lambda (k) (+ 1 (k (f)))))", "(let ((n.0 (lambda (k) (let ((n.1 (let ((n.2 (f))) (k n.2)))) (+ 1 n.1))))) (%callcc n.0))")
}

func TestIfs(t *testing.T) {
	for _, s := range unsimples {
		wantText(t, "(if "+s+" a b)", "(let ((n.0 "+s+")) (if n.0 a b))")
		wantKept(t, "(if x "+s+" "+s+")")
		wantText(t, "(if (f) "+s+" "+s+")", "(let ((n.0 (f))) (if n.0 "+s+" "+s+"))")
	}
	for _, s := range simples {
		wantKept(t, "(if "+s+" a b)")
	}
	wantText(t, "(if (if (f) a b) (f (g)) (if (g) c d))", "(let ((n.0 (let ((n.1 (f))) (if n.1 a b)))) (if n.0 (let ((n.2 (g))) (f n.2)) (let ((n.3 (g))) (if n.3 c d))))")
	// What is in a branch stays there.
	wantText(t, "(if x (car (write-u8 65)) (f (write-u8 66)))", "(if x (let ((n.0 (write-u8 65))) (car n.0)) (let ((n.1 (write-u8 66))) (f n.1)))")
}

// What need not be simple is where it was.
func TestOthers(t *testing.T) {
	for _, s := range unsimples {
		for _, shape := range []string{"(begin S S x)", "(begin x S)", "(lambda (a) S)", "(let () S)", "(let ((a S) (b 1) (c S)) S)", "(fix ((a (lambda () S))) S)"} {
			wantKept(t, strings.ReplaceAll(shape, "S", s))
		}
	}
	wantText(t, "(begin (f (g)) (h (g)))", "(begin (let ((n.0 (g))) (f n.0)) (let ((n.1 (g))) (h n.1)))")
	wantText(t, "(lambda (x) (f (g x)))", "(lambda (x) (let ((n.0 (g x))) (f n.0)))")
	wantText(t, "(let ((x (f (g))) (y (g))) (h x (f y)))", "(let ((x (let ((n.0 (g))) (f n.0))) (y (g))) (let ((n.1 (f y))) (h x n.1)))")
	wantText(t, "(fix ((f (lambda (x) (g (f x)))) (g (lambda (x) (if (f x) 1 2)))) (f (g 1)))", "(fix ((f (lambda (x) (let ((n.0 (f x))) (g n.0)))) (g (lambda (x) (let ((n.1 (f x))) (if n.1 1 2))))) (let ((n.2 (g 1))) (f n.2)))")
}

// P13.2
func TestAsItWas(t *testing.T) {
	for _, s := range append(simples, unsimples...) {
		wantKept(t, s)
	}
	for _, s := range []string{"(let ((n.0 (g x)) (n.1 (let ((n.2 (h))) (+ 1 n.2)))) (f n.0 n.1))", "(let ((n.0 (g x))) (let ((n.1 (let ((n.2 (h))) (+ 1 n.2)))) (f n.0 n.1)))", "(let () (let () 1))", "(fix ((f (lambda (f) (f 1)))) (let ((f (f f))) (if f (f) (begin f f))))"} {
		wantKept(t, s)
	}
	for _, d := range []api.Datum{{Kind: api.DatList, List: []api.Datum{}}, {Kind: api.DatList, List: make([]api.Datum, 0, 5)}} {
		if out, wrong := Name(api.Expr{Const: d}); wrong != api.OK || out.Kind != api.ExpQuote || out.Const.Kind != api.DatList || len(out.Const.List) != 0 {
			t.Error(out, wrong)
		}
	}
	// Big ones, too.
	seq := kind(api.ExpSeq, make([]api.Expr, api.MaxCore-1)...)
	within := ref("x")
	for range api.MaxWithin - 1 {
		within = kind(api.ExpIf, ref("a"), ref("b"), within)
	}
	let := api.Expr{Kind: api.ExpLet}
	for i := range api.MaxCore/2 - 1 {
		let.Names, let.Kids = append(let.Names, "n."+strconv.Itoa(i)), append(let.Kids, of("(f)"))
	}
	let.Kids = append(let.Kids, number(1))
	for _, e := range []api.Expr{seq, within, let} {
		if core.Check(e) != api.OK || !isNamed(e) {
			t.Fatal("no expression that is named")
		}
		if out, wrong := Name(e); wrong != api.OK || !core.Equal(out, e) {
			t.Errorf("of kind %d: %v", e.Kind, wrong)
		}
	}
}

// A new name stands nowhere, neither bound nor free, whether it could be caught there or not.
func TestNames(t *testing.T) {
	wantText(t, "(n.0 (f))", "(let ((n.1 (f))) (n.0 n.1))")
	wantText(t, "(f (n.0))", "(let ((n.1 (n.0))) (f n.1))")
	wantText(t, "(let ((n.0 1)) (f n.0 (g)))", "(let ((n.0 1)) (let ((n.1 (g))) (f n.0 n.1)))")
	wantText(t, "(f (let ((n.0 1)) n.0) n.1 (lambda (n.2) 5))", "(let ((n.3 (let ((n.0 1)) n.0)) (n.4 (lambda (n.2) 5))) (f n.3 n.1 n.4))")
	wantText(t, "(lambda (n.1) (cons (f) (cons (g) n.1)))", "(lambda (n.1) (let ((n.0 (f)) (n.2 (let ((n.3 (g))) (cons n.3 n.1)))) (cons n.0 n.2)))")
	wantText(t, "(fix ((n.0 (lambda () (n.0 (f))))) (n.0))", "(fix ((n.0 (lambda () (let ((n.1 (f))) (n.0 n.1))))) (n.0))")
	wantText(t, "(begin (f (g)) n.1 (f (g)))", "(begin (let ((n.0 (g))) (f n.0)) n.1 (let ((n.2 (g))) (f n.2)))")
	wantText(t, "(if (f) n.0 (let ((n.1 (if (f) 1 2))) 3))", "(let ((n.2 (f))) (if n.2 n.0 (let ((n.1 (let ((n.3 (f))) (if n.3 1 2)))) 3)))")
	// A constant's text is no name, and others may come close.
	wantText(t, "(f 'n.0 (g))", "(let ((n.0 (g))) (f 'n.0 n.0))")
	wantText(t, "(n.00 n. n (f) n.-0)", "(let ((n.0 (f))) (n.00 n. n n.0 n.-0))")
	wantText(t, "(f (g (h x)) (lambda (n.9) (n.11 (n.10))))", "(let ((n.0 (let ((n.2 (h x))) (g n.2))) (n.1 (lambda (n.9) (let ((n.3 (n.10))) (n.11 n.3))))) (f n.0 n.1))")
	// All names that are given are different, and many may be taken.
	e := kind(api.ExpSeq)
	for i := range 300 {
		e.Kids = append(e.Kids, of("(f (g n."+strconv.Itoa(2*i+1)+"))"))
	}
	out := wantNamed(t, e, "")
	if len(out.Kids) != 300 {
		t.Fatal(len(out.Kids))
	}
	times := map[string]int{}
	for _, kid := range out.Kids {
		times[kid.Names[0]]++
	}
	if len(times) != 300 {
		t.Error(len(times))
	}
}

// Outcomes that hang on the order in which things are done, and on which continuation is which.
func TestOutcomes(t *testing.T) {
	for s, want := range map[string]string{
		"(+ (* 2 3) (if (null? '()) (- 9 2) 0))":      `13 ""`,
		"(cons (write-u8 65) (write-u8 66))":          `(void . void) "AB"`,
		"(cons (read-u8) (cons (read-u8) (read-u8)))": `(120 121 . eof) ""`,
		"((begin (write-u8 65) (lambda (x y) (begin (write-u8 68) (- x y)))) (begin (write-u8 66) 7) (begin (write-u8 67) 2))": `5 "ABCD"`,
		"(vector-set! (begin (write-u8 65) (make-vector 2 0)) (begin (write-u8 66) 1) (begin (write-u8 67) 1))":                `void "ABC"`,
		"(if (begin (write-u8 65) #f) (write-u8 66) (cons (write-u8 67) (write-u8 68)))":                                       `(void . void) "ACD"`,
		"(if (if (begin (write-u8 65) #f) (car 1) (begin (write-u8 66) 1)) (begin (write-u8 67) 'yes) (car (car 1)))":          `yes "ABC"`,
		"(let ((p (cons 1 2))) (cons (car p) (begin (set-car! p 5) (car p))))":                                                 `(1 . 5) ""`,
		"(let ((p (cons 1 2))) (cons p (begin (set-car! p 5) (car p))))":                                                       `((5 . 2) . 5) ""`,
		"(let ((x (%box 1))) (+ (%unbox x) (begin (%set-box! x (+ (%unbox x) 1)) (* 10 (%unbox x)))))":                         `21 ""`,
		"(fix ((f (lambda (n) (if (< n 2) 1 (* n (f (- n 1))))))) (f 12))":                                                     `479001600 ""`,
		"(fix ((f (lambda (n) (if (= n 0) 'done (f (- n 1)))))) (f 300))":                                                      `done ""`,
		"(eq? (lambda () 1) (lambda () 1))":                                                                                    `#f ""`,
		"(let ((f (lambda () 1))) (eq? f (let ((g f)) g)))":                                                                    `#t ""`,
		"(let ((n.0 1)) (+ (let ((n.1 2)) (+ n.0 n.1)) (let ((n.0 5)) (* n.0 (+ n.0 n.0)))))":                                  `53 ""`,
		"(+ 1 (%callcc (lambda (k) (* 2 (k 5)))))":                                                                             `6 ""`,
		"(cons (write-u8 65) (%callcc (lambda (k) (cons (k 5) (write-u8 66)))))":                                               `(void . 5) "A"`,
		"(+ (%callcc (lambda (k) (begin (write-u8 65) (+ 1 (k (+ 2 (read-u8))))))) (begin (write-u8 66) 1))":                   `123 "AB"`,
	} {
		e := of(s)
		for _, e := range []api.Expr{e, wantNamed(t, e, "xy")} {
			if o := model.Run(e, "xy", enough); o.Err != api.OK || textOfShown(o)+" "+strconv.Quote(o.Output) != want {
				t.Errorf("%s: %v, want %s", textOf(e), o, want)
			}
		}
	}
}

// Where a continuation is gone back to, what was ahead of it is as it was then, and what is behind it is done anew.
func TestOutcomesBack(t *testing.T) {
	for s, want := range map[string]string{
		"(let ((left (cons 2 #f))) (let ((v (cons (read-u8) (cons (%callcc (lambda (k) (begin (set-cdr! left k) 0))) (read-u8))))) (if (= (car left) 0) v (begin (set-car! left (- (car left) 1)) ((cdr left) (+ 5 (car (cdr v))))))))": `(49 10 . 52) ""`,
		"(let ((left (cons 2 #f))) (let ((v (cons (write-u8 65) (cons (%callcc (lambda (k) (begin (set-cdr! left k) 0))) (write-u8 66))))) (if (= (car left) 0) v (begin (set-car! left (- (car left) 1)) ((cdr left) 7)))))":           `(void 7 . void) "ABBB"`,
		"(let ((l (cons '() '()))) (let ((v (cons 1 (%callcc (lambda (k) k))))) (begin (set-car! l (cons v (car l))) (if (procedure? (cdr v)) ((cdr v) 2) (eq? (car (car l)) (car (cdr (car l))))))))":                                  `#f ""`,
		"((lambda (k) (if (procedure? k) (k 5) (+ 1 (+ k k)))) (%callcc (lambda (k) k)))": `11 ""`,
		"(if (procedure? (%callcc (lambda (k) k))) 1 2)":                                  `1 ""`,
		"((%callcc (lambda (k) k)) (lambda (x) 5))":                                       `5 ""`,
	} {
		e := of(s)
		for _, e := range []api.Expr{e, wantNamedBack(t, e, "1234")} {
			if o := model.Run(e, "1234", enough); o.Err != api.OK || textOfShown(o)+" "+strconv.Quote(o.Output) != want {
				t.Errorf("%s: %v, want %s", textOf(e), o, want)
			}
		}
	}
}

// Errors, and what is written ahead of them, come where they came.
func TestErrors(t *testing.T) {
	for s, want := range map[string]api.Errno{
		"(cons (write-u8 65) (cons (error) (write-u8 66)))":                  api.ErrRunUser,
		"(+ (write-u8 65) (car (write-u8 66)))":                              api.ErrRunType,
		"(+ (write-u8 65) (quotient 1 (+ 0 0)))":                             api.ErrRunZero,
		"(f (write-u8 65) (g) (write-u8 66))":                                api.ErrRunProc,
		"(5 (write-u8 65) (write-u8 66))":                                    api.ErrRunProc,
		"((write-u8 65) (write-u8 66) (error))":                              api.ErrRunUser,
		"((lambda (x) (write-u8 65)) (write-u8 66) (write-u8 67))":           api.ErrRunCount,
		"((lambda (x) (write-u8 65)))":                                       api.ErrRunCount,
		"(if (car (write-u8 65)) (write-u8 66) (write-u8 67))":               api.ErrRunType,
		"(vector-ref (make-vector 2 (write-u8 65)) (+ 1 1))":                 api.ErrRunRange,
		"(* (+ 1152921504606846975 0) (begin (write-u8 65) (+ 1 1)))":        api.ErrRunOver,
		"(write-u8 (write-u8 65))":                                           api.ErrRunType,
		"(write-u8 (+ 255 1))":                                               api.ErrRunRange,
		"(+ 1 (%callcc (lambda () (write-u8 65))))":                          api.ErrRunCount,
		"(cons (%callcc (lambda (k) (k (write-u8 65) 2))) (write-u8 66))":    api.ErrRunCount,
		"(cons (%callcc (begin (write-u8 65) 5)) (write-u8 66))":             api.ErrRunProc,
		"(+ (fix ((f (lambda () (write-u8 65)))) (f)) (error))":              api.ErrRunUser,
		"(begin (car (write-u8 65)) (car (write-u8 66)))":                    api.ErrRunType,
		"(let ((x (car (write-u8 65))) (y (car (write-u8 66)))) (cons x y))": api.ErrRunType,
	} {
		e := of(s)
		if o := model.Run(closed(e, core.Free(e), number(1)), "", enough); o.Err != want {
			t.Errorf("%s: %v", s, o)
		}
		wantNamed(t, e, "")
	}
}

// What is bound takes two steps more at most: those of its ExpLet and of its name.
func TestSteps(t *testing.T) {
	for s, want := range map[string][2]int{
		"(car x)":                        {2, 2},
		"(null? (void))":                 {2, 4},
		"(null? (null? (null? (void))))": {4, 10},
		"(cons (void) (void))":           {3, 6},
		"(if (void) 1 2)":                {3, 5},
		"((lambda () 1))":                {3, 5},
		"((lambda (a b c d e f) a) (void) (void) (void) (void) (void) (void))": {9, 17},
		"(cons (error) 1)": {2, 2},
		"(cons 1 (error))": {3, 2},
	} {
		e := of(s)
		out := wantNamed(t, e, "")
		a, b := model.Run(closed(e, core.Free(e), number(1)), "", enough), model.Run(closed(out, core.Free(e), number(1)), "", enough)
		if extra := 2 * len(core.Free(e)); a.Steps-extra != want[0] || b.Steps-extra != want[1] {
			t.Error(s, a, b)
		}
	}
}

// These pairs are made anew each time that the continuation is gone back to. Here their steps were all taken ahead of it, while a cons whose kids are simple takes three steps behind it: so nothing that is named can keep to the bound on steps, though the outcome is right, and in no more steps than by the other way.
func TestBackInSteps(t *testing.T) {
	s := "(%callcc (lambda (k) (begin (set-cdr! left k) 0)))"
	for range 18 {
		s = "(cons 1 " + s + ")"
	}
	e := of("(let ((left (cons 100 #f))) (let ((l " + s + ")) (if (= (car left) 0) 'done (begin (set-car! left (- (car left) 1)) ((cdr left) 0)))))")
	out := wantNamedBack(t, e, "")
	a, b, c := model.Run(e, "", enough), model.Run(out, "", api.MaxSteps), model.Run(otherName(e), "", api.MaxSteps)
	if a.Err != api.OK || told(a) != told(b) || told(b) != told(c) || b.Steps > c.Steps {
		t.Error(a, b, c)
	}
}

func TestRecsAndSets(t *testing.T) {
	for _, s := range []string{"(letrec () 5)", "(letrec ((x 1)) x)", "(letrec ((x (lambda () x))) x)", "(set! x y)"} {
		for _, shape := range []string{"S", "(begin 1 S)", "(begin S 1)", "(lambda (x) S)", "(let ((x S)) x)", "(let ((x 1)) S)", "(if S 1 2)", "(if 1 S 2)", "(if 1 2 S)", "(S)", "(f 1 S)", "(car S)", "(cons (f (g)) S)", "(fix ((f (lambda (x) S))) f)", "(fix ((f (lambda () 1))) S)", "(f (g (lambda (x) (f (if x S 1)))))"} {
			wantForm(t, of(strings.ReplaceAll(shape, "S", s)))
		}
	}
}

// looped is within itself.
func looped() api.Expr {
	e := kind(api.ExpSeq, make([]api.Expr, 2)...)
	e.Kids[0], e.Kids[1] = e, e
	return e
}

// wide shares its memory, so that more expressions are come to than could ever be gone over.
func wide() api.Expr {
	e := ref("a")
	for range 200 {
		e = kind(api.ExpSeq, e, e)
	}
	return e
}

// deep has an expression within so many others.
func deep(n int, e api.Expr) api.Expr {
	for range n {
		e = kind(api.ExpCall, e)
	}
	return e
}

func TestWhatMayNotBe(t *testing.T) {
	inner := func(e api.Expr) api.Expr { return kind(api.ExpCall, ref("f"), of("(g)"), e) }
	for _, e := range []api.Expr{
		{Kind: -1}, {Kind: api.ExpKinds}, {Kind: math.MaxInt}, {Kind: math.MinInt}, {Kind: api.ExpIf}, {Kind: api.ExpRef}, ref("a b"), {Name: "x"}, {Kind: api.ExpSet, Name: "x"}, {Kind: api.ExpSeq}, {Kind: api.ExpLam}, {Kind: api.ExpCall},
		{Kind: api.ExpLet}, {Kind: api.ExpRec}, {Kind: api.ExpFix}, {Kind: api.ExpLet, Names: []string{"x"}, Kids: []api.Expr{number(1)}}, {Kind: api.ExpLet, Names: []string{"x", "x"}, Kids: make([]api.Expr, 3)},
		{Kind: api.ExpLam, Names: []string{"5"}, Kids: make([]api.Expr, 1)}, {Kind: api.ExpLam, Names: make([]string, 100000), Kids: make([]api.Expr, 1)}, {Kind: api.ExpLam, Names: []string{"a", "b", "c", "d", "e", "f", "g"}, Kids: make([]api.Expr, 1)},
		{Kind: api.ExpFix, Names: []string{"x"}, Kids: make([]api.Expr, 2)}, kind(api.ExpCall, make([]api.Expr, 8)...), kind(api.ExpIf, make([]api.Expr, 2)...), kind(api.ExpIf, make([]api.Expr, 4)...), prim("cadr", number(1)), prim("car"), prim("car", number(1), number(2)),
		{Const: api.Datum{Kind: api.DatVector}}, {Const: api.Datum{Kind: -1}}, {Const: api.Datum{Kind: api.DatList, List: make([]api.Datum, 1)}}, {Kind: api.ExpCall, Name: "f", Kids: make([]api.Expr, 1)}, {Kind: api.ExpIf, Names: []string{"x"}, Kids: make([]api.Expr, 3)}, looped(), wide(),
		inner(prim("car")), inner(looped()), inner(wide()), inner(api.Expr{Kind: api.ExpLet, Names: []string{""}, Kids: make([]api.Expr, 2)}),
		{Kind: api.ExpClo}, {Kind: api.ExpClo, Const: api.Datum{Kind: api.DatInt}, Names: []string{"x"}}, inner(api.Expr{Kind: api.ExpClo, Const: api.Datum{Kind: api.DatInt}}),
		kind(api.ExpSeq, make([]api.Expr, api.MaxCore)...), deep(api.MaxWithin, number(1)), deep(api.MaxWithin-1, inner(number(1))),
	} {
		if core.Check(e) == api.OK {
			t.Fatal(textOf(e))
		}
		wantForm(t, e)
	}
}

func TestTooMany(t *testing.T) {
	wantMany := func(e api.Expr) {
		t.Helper()
		if core.Check(e) != api.OK {
			t.Fatal("an expression that may not be")
		}
		if out, wrong := Name(e); wrong != api.ErrPassMany || !core.Equal(out, api.Expr{}) {
			t.Errorf("%v %.300s", wrong, textOf(out))
		}
	}
	// Four become six: an ExpLet and its name.
	many := func(n int) api.Expr {
		e := kind(api.ExpSeq)
		for range n {
			e.Kids = append(e.Kids, of("(f (g))"))
		}
		return e
	}
	wantNamed(t, many(682), "")
	wantMany(many(1000))
	// Each ExpIf is in an ExpLet.
	ifs := func(n int) api.Expr {
		e := number(1)
		for range n {
			e = kind(api.ExpIf, of("(f)"), number(2), e)
		}
		return e
	}
	wantNamed(t, ifs(124), "")
	wantMany(ifs(125))
	wantMany(ifs(248))
	// Calls within calls are within as many ExpLets as they were within calls.
	wantNamed(t, deep(api.MaxWithin-1, number(1)), "")
	wantNamed(t, deep(api.MaxWithin-2, of("(void)")), "")
	wantMany(deep(api.MaxWithin-1, of("(void)")))
	// It is ErrPassMany only if all else is right.
	for _, s := range []string{"(set! x 1)", "(letrec () 1)"} {
		e := many(1000)
		e.Kids[999] = of(s)
		wantForm(t, e)
	}
	e := ifs(248)
	e.Kids[0] = prim("car")
	wantForm(t, e)
}

// Small ones in which as much as may be becomes more than one: of each shape as many as are small.
func TestSmall(t *testing.T) {
	for _, shape := range []string{
		"(inner)", "(car inner)", "(if inner inner inner)", "(if (void) 1 inner)", "(if (f) inner 2)", "(if inner 1 2)", "(if (if (void) (f) inner) (g) inner)", "((f) (f) (f) (f) (f) (f) inner)", "(inner (f) (f) (f) (f) (f) (f))", "((lambda () 1) (lambda () 2) inner (lambda () 3))",
		"(f inner (g))", "(f inner inner)", "(vector-set! (void) (void) inner)", "(vector-set! inner (void) (void))", "(begin (f (g)) inner)", "(lambda (x) (if (f) inner (f (g))))", "(let ((x (f inner))) (g (h)))", "(fix ((f (lambda () (if (f) (g) inner)))) (if (f) (g) (h)))",
		"(if (f (if (g) 1 2)) (if (f (g)) 1 2) inner)", "(cons (cons (f) (g)) inner)",
	} {
		e, was := ref("x"), api.Expr{}
		for {
			was, e = e, with(of(shape), e)
			if expressions, within := size(e); expressions > 400 || within > 25 {
				break
			}
		}
		wantNamed(t, was, "")
	}
	for n := 1; 1+n*8 <= 400; n++ {
		e := kind(api.ExpSeq, number(1))
		for range n {
			e.Kids = append(e.Kids, of("((f) (f) (f) (f) (f) (f) (f))"))
		}
		if expressions, _ := size(e); expressions > 400 {
			break
		}
		wantNamed(t, e, "")
	}
}

// with has an expression in the place of each `inner`.
func with(e, inner api.Expr) api.Expr {
	if e.Kind == api.ExpRef && e.Name == "inner" {
		return inner
	}
	out := e
	out.Kids = nil
	for _, kid := range e.Kids {
		out.Kids = append(out.Kids, with(kid, inner))
	}
	return out
}

func TestMemory(t *testing.T) {
	e := of("(let ((x '()) (y (f (g '() '())))) (if (car (f x)) (lambda (a b) (cons a (cons b '()))) (fix ((m (lambda (n o) (n (o))))) (m (y) (let ((z (f)) (w x)) z)))))")
	e.Kids[0].Const.List = make([]api.Datum, 0, 3)
	m := memory{}
	m.look(e)
	out := wantNamed(t, e, "")
	m.look(out)
	again, _ := Name(e)
	m.look(again)
	if !core.Equal(out, again) || m.isShared() {
		t.Error("memory is shared by what comes of", textOf(e))
	}
	// Neither where parts of what is handed in are one.
	part := of("(f (g) (lambda (x y) '()))")
	shared := kind(api.ExpSeq, part, kind(api.ExpIf, part, part, part), part)
	m = memory{}
	m.look(wantNamed(t, shared, ""))
	if m.isShared() {
		t.Error("memory is shared by what comes of", textOf(shared))
	}
}

// What is asked for again is as it was the first time.
func TestNothingIsKept(t *testing.T) {
	e := of("(f (g (h)) n.1 (lambda (n.3) (if (f) 1 2)))")
	want := wantNamed(t, e, "")
	Name(of("(n.0 (n.2 (n.4)))"))
	if out, _ := Name(e); !core.Equal(out, want) {
		t.Error(textOf(out))
	}
	if !slices.Equal(core.Free(want), []string{"f", "g", "h", "n.1"}) {
		t.Error(core.Free(want))
	}
}
