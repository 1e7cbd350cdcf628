package expand

import (
	"scrimshaw/api"
	"scrimshaw/core"
	"slices"
	"strconv"
	"strings"
	"testing"
)

// P7.2, of the whole.

func TestExamples(t *testing.T) {
	want(t, "(define x 1) (set! x 2) x", "(letrec ((v.0 (quote 1)) (v.1 (set! v.0 (quote 2)))) v.0)")
	want(t, "(let ((if 1)) (or #f if))", "(let ((v.0 (quote 1))) (let ((v.1 (quote #f))) (if v.1 v.1 v.0)))")
	wantWrong(t, "(car 1 2)", 0, api.ErrExpandCount)
	wantWrong(t, "(lambda (x x) x)", 0, api.ErrExpandTwice)
	wantWrong(t, "y", 0, api.ErrExpandFree)
	wantWrong(t, "if", 0, api.ErrExpandUse)
	wantWrong(t, "(quote)", 0, api.ErrExpandForm)
	wantWrong(t, "a~b", 0, api.ErrExpandName)
}

func TestFuelThatMayNotBe(t *testing.T) {
	for _, fuel := range []int{-1, 2001, -1 << 63, 1<<63 - 1} {
		wantWrongData(t, of("1"), fuel, 0, api.ErrArg)
		wantWrongData(t, nil, fuel, 0, api.ErrArg)
		wantWrongData(t, rows(integer(1), list(), sym("a~b")), fuel, 0, api.ErrArg)
	}
	for _, fuel := range []int{0, 1, 2000} {
		if e, n, wrong := Program(of("1"), fuel); told(e) != "(quote 1)" || n != 0 || wrong != api.OK {
			t.Errorf("%d: %s, %d, %v", fuel, told(e), n, wrong)
		}
	}
}

// looped is within itself.
func looped(kind int) api.Datum {
	l := rows(sym("a"), sym("b"), sym("c"))
	d := api.Datum{Kind: kind, List: l}
	l[1] = d
	return d
}

// wide shares its memory: there is little of it, but more data are come to than could ever be gone over.
func wide() api.Datum {
	d := list(integer(1))
	for range 31 {
		d = list(d, d, d, d)
	}
	return d
}

func nested(depth int, d api.Datum) api.Datum {
	for range depth {
		d = list(d)
	}
	return d
}

func TestDataThatMayNotBe(t *testing.T) {
	one := integer(1)
	for _, d := range rows(api.Datum{Kind: -1}, api.Datum{Kind: api.DatKinds}, api.Datum{Kind: api.DatBool, Int: 2}, integer(api.MaxInt+1), api.Datum{Kind: api.DatChar, Int: 256}, text(strings.Repeat("a", 4097)), sym(""), sym("5"), sym("a b"), sym(strings.Repeat("a", 65)), sym(strings.Repeat("~", 65)),
		api.Datum{Kind: api.DatSymbol, Text: "a", Int: 1}, api.Datum{Kind: api.DatInt, Text: "a"}, dotted(), dotted(one), dotted(one, list()), list(list(one, sym("if"), vector(sym("a b"))))) {
		wantWrongData(t, rows(d), 5, 0, api.ErrDataForm)
		wantWrongData(t, rows(sym("y"), list(), d, sym("a~b")), 5, 2, api.ErrDataForm)
		wantWrongData(t, rows(sym("y"), sym("a~b"), d), 5, 1, api.ErrExpandName)
		wantWrongData(t, rows(list(sym("quote"), list(sym("a~b"), d))), 5, 0, api.ErrDataForm)
	}
	for _, d := range rows(nested(33, one), nested(32, list()), looped(api.DatList), looped(api.DatVector), looped(api.DatDotted)) {
		wantWrongData(t, rows(one, d), 5, 1, api.ErrDataDeep)
	}
	wantWrongData(t, rows(list(slices.Repeat(rows(one), 4096)...)), 5, 0, api.ErrDataMany)
	wantWrongData(t, rows(one, one, wide()), 5, 2, api.ErrDataMany)
}

func TestNames(t *testing.T) {
	long := strings.Repeat("x", 40)
	want(t, "(define "+long+" 1) "+long, "(letrec ((v.0 (quote 1))) v.0)")
	want(t, "'"+long, "(quote "+long+")")
	wantWrong(t, "'"+long+"x", 0, api.ErrExpandName)
	wantWrong(t, "(define "+long+"x 1)", 0, api.ErrExpandName)
	for _, s := range []string{"~", "~0~x", "x~", "a~b", "~~", "~1~if", "'(1 . ~)", "'#(1 (~x))", "(lambda (x~) 1)", "(car 1 2 ~)"} {
		wantWrong(t, s, 0, api.ErrExpandName)
		wantWrong(t, "(car) y (quote) "+s, 3, api.ErrExpandName)
	}
	want(t, "\"~\"", "(let ((v.0 (let ((v.1 (prim make-string (quote 1) (quote #\\x00)))) (begin (prim string-set! v.1 (quote 0) (quote #\\~)) v.1)))) v.0)")
	want(t, "#\\~", "(quote #\\~)")
}

func TestWholes(t *testing.T) {
	want(t, "", "(prim void)")
	want(t, "(begin)", "(prim void)")
	want(t, "(define-syntax m (syntax-rules ()))", "(prim void)")
	want(t, "(define x 1)", "(letrec ((v.0 (quote 1))) (prim void))")
	want(t, "1", "(quote 1)")
	want(t, "1 2 3", "(letrec ((v.0 (quote 1)) (v.1 (quote 2))) (quote 3))")
	want(t, "1 (define x 2)", "(letrec ((v.0 (quote 1)) (v.1 (quote 2))) (prim void))")
	want(t, "1 (define-syntax m (syntax-rules ()))", "(letrec ((v.0 (quote 1))) (prim void))")
	want(t, "1 (begin)", "(quote 1)")
	want(t, "1 (begin (begin) (begin))", "(quote 1)")
	want(t, "(begin 1 2)", "(letrec ((v.0 (quote 1))) (quote 2))")
	want(t, "(begin 1 (define x 2)) (begin (begin x) (begin)) (begin)", "(letrec ((v.0 (quote 1)) (v.1 (quote 2))) v.1)")
	want(t, "(define x y) (define y x) x", "(letrec ((v.0 v.1) (v.1 v.0)) v.0)")
	want(t, "x (define x 1)", "(letrec ((v.0 v.1) (v.1 (quote 1))) (prim void))")
	want(t, "(define e 1) 2 e", "(letrec ((v.0 (quote 1)) (v.1 (quote 2))) v.0)")
	// What is no macro's use where it is gone over may be one where it is expanded.
	want(t, "(m) (define-syntax m (syntax-rules () ((_) 5))) 6", "(letrec ((v.0 (quote 5))) (quote 6))")
	wantWrong(t, "(m) (define-syntax m (syntax-rules () ((_) (define x 5)))) 6", 0, api.ErrExpandForm)
	wantWrong(t, "e 1", 0, api.ErrExpandFree)
}

func TestTwiceInAProgram(t *testing.T) {
	wantWrong(t, "(define a 1) (define a 2)", 1, api.ErrExpandTwice)
	wantWrong(t, "(define a 1) (define-syntax a (syntax-rules ()))", 1, api.ErrExpandTwice)
	wantWrong(t, "(define-syntax a (syntax-rules ())) 1 (define (a) 1)", 2, api.ErrExpandTwice)
	wantWrong(t, "(begin (define a 1) (begin 5 (define a 2)))", 0, api.ErrExpandTwice)
	// It is gone over ahead of all that is expanded.
	wantWrong(t, "y (car) (define a 1) (define a 2)", 3, api.ErrExpandTwice)
	wantWrong(t, "y (define a 1) (lambda () (define a 1) (define a 2) a)", 0, api.ErrExpandFree)
	// The prelude's place and the base are others.
	want(t, "(define car 1) (define let 2) (define not 3) (define if 4) (cons car (cons let (cons not if)))", "(letrec ((v.0 (quote 1)) (v.1 (quote 2)) (v.2 (quote 3)) (v.3 (quote 4))) (prim cons v.0 (prim cons v.1 (prim cons v.2 v.3))))")
	wantWrong(t, "(define define 1) (define x 2)", 1, api.ErrExpandFree)
	// What a macro defines of its own is another one each time.
	want(t, "(define-syntax d (syntax-rules () ((_ v) (define x v)))) (d 1) (d 2) (define x 3)", "(letrec ((v.0 (quote 1)) (v.1 (quote 2)) (v.2 (quote 3))) (prim void))")
	wantWrong(t, "(define-syntax d (syntax-rules () ((_ x) (define x 1)))) (d x) (d y) (d x)", 3, api.ErrExpandTwice)
}

func TestPlacesOfErrors(t *testing.T) {
	wantWrong(t, "1 2 y", 2, api.ErrExpandFree)
	wantWrong(t, "(define (f) y) 2 (car)", 0, api.ErrExpandFree)
	wantWrong(t, "1 (begin 2 3 (begin 4 (car)) y) z", 1, api.ErrExpandCount)
	wantWrong(t, "1 (begin 2 (lambda () (define x 1) (define y (lambda () (define z (car)) 1)) 2)) z", 1, api.ErrExpandCount)
	wantWrong(t, "1 (begin 2 (define x)) z", 1, api.ErrExpandForm)
	wantWrong(t, "(define-syntax m (syntax-rules () ((_ x) (begin 1 x)))) 1 (m 2) (m (m y)) 1", 3, api.ErrExpandFree)
	// What is gone over comes ahead of what is expanded.
	wantWrong(t, "(car) (define-syntax m 1)", 1, api.ErrExpandForm)
	wantWrong(t, "(car) (when)", 1, api.ErrRulesNone)
	wantWrong(t, "(car) (car (when))", 0, api.ErrExpandCount)
	// A definition of another shape is no definition: so it is looked at when it is expanded.
	wantWrong(t, "(define x) (define-syntax m 1)", 1, api.ErrExpandForm)
	wantWrong(t, "y (define x)", 0, api.ErrExpandFree)
}

func TestWhatIsNeeded(t *testing.T) {
	names := func(s string) string {
		e, _, wrong := Program(of(s), api.MaxFuel)
		if wrong != api.OK {
			t.Errorf("%s: %v", s, wrong)
		}
		if e.Kind != api.ExpRec {
			return ""
		}
		var roots []string
		for _, name := range e.Names {
			root, _, _ := strings.Cut(name, ".")
			roots = append(roots, root)
		}
		return strings.Join(roots, " ")
	}
	for s, want := range map[string]string{
		"1":                                "",
		"(define (f) 1) (f)":               "f",
		"(not 1)":                          "not",
		"(>= 1 2)":                         "not >=",
		"(> 1 2)":                          ">",
		"(lambda () (set! length 1))":      "length",
		"(define x append) x":              "append x",
		"append 1":                         "append e",
		"(define (append) 1) (append)":     "append",
		"(lambda (append) (append))":       "",
		"(equal? 1 2)":                     "equal? same?",
		"(apply car '())":                  "length list-tail apply",
		"(let ((x common)) x)":             "length list-tail common",
		"dynamic-wind":                     "dynamic-wind",
		"(lambda () call/cc)":              "length list-tail common unwind rewind call/cc",
		"(define y call/cc) not reverse":   "not reverse length list-tail common unwind rewind call/cc y e",
		"(do ((i 0 (+ i 1))) ((> i 5) i))": ">",
		"(define-syntax m (syntax-rules () ((_) not))) 1 (car 'not)": "e",
	} {
		if got := names(s); got != want {
			t.Errorf("%s: %q, want %q", s, got, want)
		}
	}
	// All of it, in the prelude's order.
	if got := names("map for-each equal? apply dynamic-wind call/cc append reverse > <= >= 1"); !strings.HasPrefix(got, "not > <= >= append reverse length list-tail map for-each equal? same? apply common unwind rewind dynamic-wind call/cc e e e") {
		t.Error(got)
	}
}

// What is bound gets the root of its symbol, a point, and a number one greater each time; the prelude's 18 variables come first.
func TestNewNames(t *testing.T) {
	for s, names := range map[string]string{
		"(define x 1) (define (f) 2) x": "x.18 f.19",
		"(define-syntax d (syntax-rules () ((_) (define x 1)))) (d) (begin (d) (define x.1 2)) 3": "x.18 x.19 x.1.20",
		"1 (define .. 2) (define - 3)": "e.18 ...19 -.20",
	} {
		e, _, _ := Program(of(s), 5)
		if got := strings.Join(e.Names, " "); got != names {
			t.Errorf("%s: %s, want %s", s, got, names)
		}
	}
	// Each one when it is bound, those of buildings in the end.
	for s, roots := range map[string]string{
		"(lambda (x y) (define z '(a)) (letrec ((u 1)) (lambda (v) car)) (let ((w z)) '#(1 \"t\")))": "x y z c u v p w c w s",
		"'(\"a\" #(\"b\" #()) . \"c\") '#(\"d\")":                                                    "e c c s w s w s w s",
		"(lambda (x) (define (f y) z) (define z +) (f z))":                                           "x f z y p p",
		"((lambda (x) (lambda (y) y)) (lambda (z) z))":                                               "x y z",
		"(letrec ((x (lambda (y) y)) (z 1)) (define u 1) z)":                                         "x z y u",
		"(define-syntax m (syntax-rules () ((_ x) (lambda (x y) x)))) (m if) (m if)":                 "e if y if y",
	} {
		e, _, _ := Program(of(s), 5)
		if got := strings.Join(rootsInOrder(e), " "); got != roots {
			t.Errorf("%s: %s, want %s", s, got, roots)
		}
	}
}

// The result binds nothing, so that it takes no number; only the last datum that the program came to is it, and only if it is no definition.
func TestNewNamesOfAResult(t *testing.T) {
	const (
		f = "(lambda (x) x)"
		n = "(define-syntax n (syntax-rules ())) "
		m = "(define-syntax m (syntax-rules () ((_ y ...) (begin 1 y ...)))) "
	)
	for s, text := range map[string]string{
		f:                                   "(lambda (x.80) x.80)",
		"1 " + f:                            "(letrec ((e.18 (quote 1))) (lambda (x.81) x.81))",
		"1 2 " + f:                          "(letrec ((e.18 (quote 1)) (e.19 (quote 2))) (lambda (x.82) x.82))",
		"(define y 1) " + f:                 "(letrec ((y.18 (quote 1))) (lambda (x.81) x.81))",
		f + " (define y 1)":                 "(letrec ((e.18 (lambda (x.82) x.82)) (y.19 (quote 1))) (prim void))",
		f + n:                               "(letrec ((e.18 (lambda (x.81) x.81))) (prim void))",
		n + f:                               "(lambda (x.80) x.80)",
		"1 " + n + f:                        "(letrec ((e.18 (quote 1))) (lambda (x.81) x.81))",
		"(define y " + f + ")":              "(letrec ((y.18 (lambda (x.81) x.81))) (prim void))",
		"(begin " + f + ")":                 "(lambda (x.80) x.80)",
		"(begin 1 (begin " + f + "))":       "(letrec ((e.18 (quote 1))) (lambda (x.81) x.81))",
		f + "(begin) (begin (begin))":       "(lambda (x.80) x.80)",
		"(begin " + f + " (begin)) (begin)": "(lambda (x.80) x.80)",
		"(begin 1 (define y 2)) " + f:       "(letrec ((e.18 (quote 1)) (y.19 (quote 2))) (lambda (x.82) x.82))",
		"(begin " + f + " (define y 2))":    "(letrec ((e.18 (lambda (x.82) x.82)) (y.19 (quote 2))) (prim void))",
		m + "(m " + f + ")":                 "(letrec ((e.18 (quote 1))) (lambda (x.81) x.81))",
		m + "(m (define y " + f + "))":      "(letrec ((e.18 (quote 1)) (y.19 (lambda (x.82) x.82))) (prim void))",
		m + "(m) (m) (begin)":               "(letrec ((e.18 (quote 1))) (quote 1))",
		"(quote (1))":                       "(let ((c.80 (prim cons (quote 1) (quote ())))) c.80)",
		"\"\"":                              "(let ((c.80 (let ((s.81 (prim make-string (quote 0) (quote #\\x00)))) s.81))) c.80)",
		"\"\" (define y 1)":                 "(let ((c.82 (let ((s.83 (prim make-string (quote 0) (quote #\\x00)))) s.83))) (letrec ((e.18 c.82) (y.19 (quote 1))) (prim void)))",
		"(lambda () #()) #()":               "(let ((c.81 (let ((w.83 (prim make-vector (quote 0) (quote #f)))) w.83)) (c.82 (let ((w.84 (prim make-vector (quote 0) (quote #f)))) w.84))) (letrec ((e.18 (lambda () c.81))) c.82))",
		"":                                  "(prim void)",
	} {
		e, _, wrong := Program(of(s), 5)
		if got := toldAs(e); got != text || wrong != api.OK {
			t.Errorf("%s:\n%s, %v; want\n%s", s, got, wrong, text)
		}
	}
}

// rootsInOrder are the roots of the names that are bound in an expression, in the order of their numbers.
func rootsInOrder(e api.Expr) []string {
	number := func(name string) int {
		n, _ := strconv.Atoi(name[strings.LastIndex(name, ".")+1:])
		return n
	}
	names := boundIn(e)
	slices.SortFunc(names, func(a, b string) int { return number(a) - number(b) })
	for i, name := range names {
		names[i] = name[:strings.LastIndex(name, ".")]
	}
	return names
}

// boundIn are the names that are bound in an expression, each as often as it is.
func boundIn(e api.Expr) []string {
	l := slices.Clone(e.Names)
	for _, kid := range e.Kids {
		l = append(l, boundIn(kid)...)
	}
	return l
}

func TestManyExpressions(t *testing.T) {
	one, four := integer(1), of("((begin (begin 5)))")[0] // four that are begun, of which two are left
	most := slices.Repeat(rows(four), 1023)               // so that four more may be begun
	const m = "(define-syntax m (syntax-rules () ((_ x) x))) "
	for s, at := range map[string]int{
		"1 2 3 4": -1, "1 2 3 4 5": 1027, "1 2 3 4 5 6 7": 1027, "1 2 3 4 (begin)": -1, "1 2 3 4 (define x)": 1027, "1 2 3 (define x 4) (define y 5)": 1027,
		"(lambda () 1 2 3)": -1, "(lambda () 1 2 3 4)": 1023, "(lambda () (begin 1 2 3))": -1, "(lambda () 1 (begin 2 3))": 1023, "(define (f) 1 2 3)": -1, "(define (f) 1 2 3) (define (g) 4)": 1024, "(define (f) 1 2 3 4)": 1023,
		"(car 1) (car 2)": -1, "(car 1) (car 2) car": 1025, "vector-set! vector-set! vector-set! vector-set!": -1, "(1 2 3)": -1, "(1 2 3 4)": 1023, "(if 1 2)": -1, "(if 1 2 3)": -1, "((lambda () 1) 2)": -1, "(lambda (x) (set! x 1) 2)": -1, "(lambda (x) (set! x 1) x 2)": 1023,
		"'(1 2 3 4 5) '6 7 8": -1, "'(1 2 3 4 5) '6 7 8 '9": 1027, "(letrec ((x 1) (y 2)) 3)": -1, "(letrec ((x 1) (y 2)) 3 4)": 1023, "(let-syntax () 1 2 3)": -1, "(let-syntax () 1 2 3 4)": 1023,
		m + "(m 1) (m (m 2)) (car (m 3))": -1, m + "(m 1) (m (m 2)) (m (car (m 3))) (m (m (m 4)))": 1027,
	} {
		l := append(slices.Clone(most), of(s)...)
		if at < 0 {
			if _, _, wrong := Program(l, 50); wrong != api.OK {
				t.Errorf("%s: %v", s, wrong)
			}
		} else {
			wantWrongData(t, append(l, one, one), 50, at, api.ErrExpandMany)
		}
	}
	// So many may be.
	if _, _, wrong := Program(slices.Repeat(rows(one), 4095), 0); wrong != api.OK {
		t.Errorf("%v", wrong)
	}
	wantWrongData(t, slices.Repeat(rows(one), 4096), 0, 4096, api.ErrExpandMany)
	wantWrongData(t, slices.Repeat(rows(one), 5000), 0, 4096, api.ErrExpandMany)
	// An error ahead of it is told, and one behind it is not.
	wantWrongData(t, append(slices.Repeat(rows(one), 4095), sym("y"), one), 5, 4095, api.ErrExpandFree)
	wantWrongData(t, append(slices.Repeat(rows(one), 4096), sym("y"), one), 5, 4096, api.ErrExpandMany)
	wantWrongData(t, append(slices.Repeat(rows(one), 4096), list(sym("and")), one), 0, 4096, api.ErrExpandFuel)
	wantWrongData(t, append(slices.Repeat(rows(one), 4096), list(sym("begin"))), 5, 4097, api.ErrExpandMany)
	if _, n, wrong := Program(append(slices.Repeat(rows(list(sym("begin"))), 5000), one), 5); n != 0 || wrong != api.OK {
		t.Errorf("%d, %v", n, wrong)
	}
}

func TestDeepExpressions(t *testing.T) {
	items := func(n int) []api.Datum {
		return rows(list(append(rows(sym("list")), slices.Repeat(rows(integer(1)), n)...)...))
	}
	if e, n, wrong := Program(items(249), 2000); core.Check(e) != api.OK || n != 250 || wrong != api.OK {
		t.Errorf("%d, %v", n, wrong)
	}
	wantWrongData(t, items(250), 2000, 1, api.ErrExpandMany)
	wantWrongData(t, append(items(250), integer(1)), 2000, 2, api.ErrExpandMany)
	wantWrongData(t, append(items(249), integer(1)), 2000, 2, api.ErrExpandMany)
	wantWrongData(t, items(250), 250, 0, api.ErrExpandFuel)
}

func TestArgumentsStayAndNothingIsShared(t *testing.T) {
	for _, s := range append(slices.Clone(somePrograms), "'(1 () #() \"a\")", "(define-syntax m (syntax-rules (a) ((_ a . x) 'x))) (m a () (b))") {
		l := of(s)
		l = append(l, list(sym("quote"), api.Datum{Kind: api.DatList, List: make([]api.Datum, 0, 3)}))
		was := rawAll(l)
		e, n, wrong := Program(l, api.MaxFuel)
		again, m, _ := Program(l, api.MaxFuel)
		if rawAll(l) != was || rawExpr(e) != rawExpr(again) || n != m || wrong != api.OK {
			t.Errorf("%s: %d, %d, %v", s, n, m, wrong)
		}
		all := memory{}
		all.ofData(l)
		all.ofExpr(e)
		all.ofExpr(again)
		if all.shared() {
			t.Errorf("%s: what comes of it shares memory", s)
		}
	}
}
