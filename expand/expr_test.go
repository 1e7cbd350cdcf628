package expand

import (
	"scrimshaw/api"
	"scrimshaw/core"
	"strings"
	"testing"
)

// P7.2, of expressions: line by line, with each line's wrong shapes.

func TestSymbols(t *testing.T) {
	want(t, "(lambda (x) x)", "(lambda (v.0) v.0)")
	want(t, "car", "(lambda (v.0) (prim car v.0))")
	want(t, "void", "(lambda () (prim void))")
	want(t, "%winders", "(lambda () (prim %winders))")
	want(t, "vector-set!", "(lambda (v.0 v.1 v.2) (prim vector-set! v.0 v.1 v.2))")
	want(t, "(lambda (car) car)", "(lambda (v.0) v.0)")
	want(t, "(define car 1) car", "(letrec ((v.0 (quote 1))) v.0)")
	wantWrong(t, "y", 0, api.ErrExpandFree)
	for _, s := range strings.Fields("quote lambda if set! begin define define-syntax syntax-rules let-syntax letrec-syntax letrec let let* and or when unless cond do-step do list") {
		wantWrong(t, s, 0, api.ErrExpandUse)
		wantWrong(t, "(void "+s+")", 0, api.ErrExpandCount)
		wantWrong(t, "(write-u8 "+s+")", 0, api.ErrExpandUse)
	}
	// What other Schemes have as a form is none here.
	for _, s := range strings.Fields("else => ... _ define-record-type let-values case quasiquote unquote letrec* fix call prim") {
		wantWrong(t, s, 0, api.ErrExpandFree)
	}
	for _, s := range strings.Fields("not > <= >= append reverse length list-tail map for-each equal? same? apply common unwind rewind dynamic-wind call/cc") {
		if e, n, wrong := Program(of(s), 0); wrong != api.OK || n != 0 || len(core.Free(e)) > 0 {
			t.Errorf("%s: %s, %d, %v", s, told(e), n, wrong)
		}
	}
}

func TestConstants(t *testing.T) {
	for _, s := range []string{"#f", "#t", "0", "-5", "1152921504606846975", "#\\a", "#\\space", "#\\xff"} {
		want(t, s, "(quote "+s+")")
		want(t, "'"+s, "(quote "+s+")")
	}
	want(t, "'a", "(quote a)")
	want(t, "'()", "(quote ())")
	want(t, "(quote if)", "(quote if)")
	for _, s := range []string{"(quote)", "(quote 1 2)", "(quote . 1)", "()", "(quote 1 . 2)"} {
		wantWrong(t, s, 0, api.ErrExpandForm)
	}
}

func TestPrimitives(t *testing.T) {
	want(t, "(car '())", "(prim car (quote ()))")
	want(t, "(+ 1 2)", "(prim + (quote 1) (quote 2))")
	want(t, "(read-u8)", "(prim read-u8)")
	want(t, "(vector-set! 1 2 3)", "(prim vector-set! (quote 1) (quote 2) (quote 3))")
	for _, s := range []string{"(car)", "(car 1 2)", "(+ 1)", "(+)", "(+ 1 2 3)", "(void 1)", "(error 'a)", "(vector-set! 1 2)", "(vector-set! 1 2 3 4)", "(car y z)", "(- 1)"} {
		wantWrong(t, s, 0, api.ErrExpandCount)
	}
	wantWrong(t, "(car y)", 0, api.ErrExpandFree)
	wantWrong(t, "(cons y (car))", 0, api.ErrExpandFree)
	wantWrong(t, "(cons (car) y)", 0, api.ErrExpandCount)
	wantWrong(t, "(car . y)", 0, api.ErrExpandForm)
	wantWrong(t, "(car 1 . 2)", 0, api.ErrExpandForm)
	want(t, "(let ((car 1)) (car 1 2))", "(let ((v.0 (quote 1))) (call v.0 (quote 1) (quote 2)))")
	for name := range arities() {
		if core.Arity(name) != arities()[name] {
			t.Errorf("%s", name)
		}
		args := strings.Repeat(" 1", arities()[name])
		want(t, "("+name+args+")", "(prim "+name+strings.ReplaceAll(args, "1", "(quote 1)")+")")
		wantWrong(t, "("+name+args+" 1)", 0, api.ErrExpandCount)
	}
}

// arities are all primitives.
func arities() map[string]int {
	out := map[string]int{}
	for n, l := range []string{
		"read-u8 error void %winders %unset",
		"null? pair? vector? string? symbol? char? integer? boolean? procedure? eof-object? car cdr vector-length string-length char->integer integer->char write-u8 %box %unbox %wind! %callcc",
		"+ - * quotient remainder < = eq? cons set-car! set-cdr! make-vector vector-ref make-string string-ref %set-box!",
		"vector-set! string-set!"} {
		for _, name := range strings.Fields(l) {
			out[name] = n
		}
	}
	return out
}

func TestCalls(t *testing.T) {
	want(t, "(1)", "(call (quote 1))")
	want(t, "(1 2 3 4 5 6 7)", "(call (quote 1) (quote 2) (quote 3) (quote 4) (quote 5) (quote 6) (quote 7))")
	wantWrong(t, "(1 2 3 4 5 6 7 8)", 0, api.ErrExpandCount)
	wantWrong(t, "(y 2 3 4 5 6 7 8)", 0, api.ErrExpandCount)
	wantWrong(t, "(y (car))", 0, api.ErrExpandFree)
	wantWrong(t, "((car) y)", 0, api.ErrExpandCount)
	wantWrong(t, "(1 . 2)", 0, api.ErrExpandForm)
	want(t, "((lambda (x y) (+ x y)) 1 2)", "(let ((v.0 (quote 1)) (v.1 (quote 2))) (prim + v.0 v.1))")
	want(t, "((lambda () 5))", "(let () (quote 5))")
	want(t, "((begin (lambda (x) x)) 1)", "(let ((v.0 (quote 1))) v.0)")
	want(t, "((begin car) 1)", "(let ((v.0 (quote 1))) (prim car v.0))")
	want(t, "((let-syntax () car) 1)", "(let ((v.0 (quote 1))) (prim car v.0))")
	want(t, "((lambda (x) x))", "(call (lambda (v.0) v.0))")
	want(t, "((lambda (x) x) 1 2)", "(call (lambda (v.0) v.0) (quote 1) (quote 2))")
	want(t, "((if 1 (lambda () 2)))", "(call (if (quote 1) (lambda () (quote 2)) (prim void)))")
	want(t, "((lambda (x) x) (lambda (y) y))", "(let ((v.0 (lambda (v.1) v.1))) v.0)")
	want(t, "(((lambda (x) (lambda (y) x)) 1) 2)", "(call (let ((v.0 (quote 1))) (lambda (v.1) v.0)) (quote 2))")
}

func TestQuoteIfBeginSet(t *testing.T) {
	want(t, "(if 1 2 3)", "(if (quote 1) (quote 2) (quote 3))")
	want(t, "(if 1 2)", "(if (quote 1) (quote 2) (prim void))")
	want(t, "(void)", "(prim void)")
	want(t, "(write-u8 (begin 1))", "(prim write-u8 (quote 1))")
	want(t, "(write-u8 (begin 1 2 3))", "(prim write-u8 (begin (quote 1) (quote 2) (quote 3)))")
	want(t, "(lambda (x) (set! x x))", "(lambda (v.0) (set! v.0 v.0))")
	want(t, "(set! not 1)", "(letrec ((v.0 (lambda (v.1) (if v.1 (quote #f) (quote #t))))) (set! v.0 (quote 1)))")
	for _, s := range []string{"(if)", "(if 1)", "(if 1 2 3 4)", "(if y)", "(if 1 . 2)", "(write-u8 (begin))", "(begin . 1)", "(write-u8 (begin . 1))", "(begin 1 . 2)", "(set!)", "(set! x)", "(set! 1 2)", "(set! y 1 2)", "(set! (x) 1)", "(set! \"a\" 1)", "(set! y . 1)"} {
		wantWrong(t, s, 0, api.ErrExpandForm)
	}
	wantWrong(t, "(set! y (car))", 0, api.ErrExpandFree)
	wantWrong(t, "(set! if (car))", 0, api.ErrExpandUse)
	wantWrong(t, "(set! car (car))", 0, api.ErrExpandUse)
	wantWrong(t, "(set! let z)", 0, api.ErrExpandUse)
	wantWrong(t, "(lambda (x) (set! x (car)))", 0, api.ErrExpandCount)
	wantWrong(t, "(if (car) y)", 0, api.ErrExpandCount)
	wantWrong(t, "(if y (car))", 0, api.ErrExpandFree)
	wantWrong(t, "(if 1 2 y)", 0, api.ErrExpandFree)
}

func TestLambda(t *testing.T) {
	want(t, "(lambda () 1)", "(lambda () (quote 1))")
	want(t, "(lambda (a b c d e f) (f a))", "(lambda (v.0 v.1 v.2 v.3 v.4 v.5) (call v.5 v.0))")
	want(t, "(lambda (x) 1 x)", "(lambda (v.0) (begin (quote 1) v.0))")
	want(t, "(lambda (x) (lambda (x) x))", "(lambda (v.0) (lambda (v.1) v.1))")
	want(t, "(lambda (lambda) (lambda lambda))", "(lambda (v.0) (call v.0 v.0))")
	for _, s := range []string{"(lambda)", "(lambda (x))", "(lambda x x)", "(lambda (x . y) x)", "(lambda (1) 1)", "(lambda ((x)) 1)", "(lambda #(x) x)", "(lambda (a b c d e f g))", "(lambda (x x))", "(lambda (a b c d e f 1) 1)", "(lambda . 1)", "(lambda (x) . 1)", "(lambda (x) (define y 1))"} {
		wantWrong(t, s, 0, api.ErrExpandForm)
	}
	wantWrong(t, "(lambda (a b c d e f g) y)", 0, api.ErrExpandCount)
	wantWrong(t, "(lambda (a a b c d e f) y)", 0, api.ErrExpandCount)
	wantWrong(t, "(lambda (a b a) y)", 0, api.ErrExpandTwice)
	wantWrong(t, "(lambda (a b) y)", 0, api.ErrExpandFree)
}

func TestLetrec(t *testing.T) {
	want(t, "(letrec ((x y) (y x)) (x y))", "(letrec ((v.0 v.1) (v.1 v.0)) (call v.0 v.1))")
	want(t, "(letrec () 1 2)", "(begin (quote 1) (quote 2))")
	want(t, "(letrec ((a 1) (b 1) (c 1) (d 1) (e 1) (f 1) (g 1)) g)", "(letrec ((v.0 (quote 1)) (v.1 (quote 1)) (v.2 (quote 1)) (v.3 (quote 1)) (v.4 (quote 1)) (v.5 (quote 1)) (v.6 (quote 1))) v.6)")
	want(t, "(letrec ((x 1)) (define x 2) x)", "(letrec ((v.0 (quote 1))) (letrec ((v.1 (quote 2))) v.1))")
	want(t, "(letrec ((x (lambda () x))) x)", "(letrec ((v.0 (lambda () v.0))) v.0)")
	for _, s := range []string{"(letrec)", "(letrec ())", "(letrec x x)", "(letrec (x) x)", "(letrec ((x)) x)", "(letrec ((x 1 2)) x)", "(letrec ((1 2)) 1)", "(letrec ((x . 1)) x)", "(letrec ((x 1) . y) x)", "(letrec #((x 1)) x)", "(letrec ((x 1) (x 2)))", "(letrec f ((x 1)) x)", "(letrec (#(x 1)) x)"} {
		wantWrong(t, s, 0, api.ErrExpandForm)
	}
	wantWrong(t, "(letrec ((x y) (x y)) y)", 0, api.ErrExpandTwice)
	wantWrong(t, "(letrec ((x y) (z (car))) (if))", 0, api.ErrExpandFree)
	wantWrong(t, "(letrec ((x x) (z (car))) (if))", 0, api.ErrExpandCount)
	wantWrong(t, "(letrec ((x x) (z x)) (if))", 0, api.ErrExpandForm)
}

func TestLetSyntax(t *testing.T) {
	want(t, "(let-syntax () 1 2)", "(begin (quote 1) (quote 2))")
	want(t, "(letrec-syntax () 1)", "(quote 1)")
	want(t, "(let-syntax ((m (syntax-rules () ((_ x) (car x))))) (define y 1) (m y))", "(letrec ((v.0 (quote 1))) (prim car v.0))")
	// By let-syntax a macro's own name within its templates means what it does outside.
	want(t, "(define (m x) 1) (let-syntax ((m (syntax-rules () ((_ x) (m x))))) (m 2))", "(letrec ((v.0 (lambda (v.1) (quote 1)))) (call v.0 (quote 2)))")
	wantWrong(t, "(define (m x) 1) (letrec-syntax ((m (syntax-rules () ((_ x) (m x))))) (m 2))", 1, api.ErrExpandFuel)
	want(t, "(letrec-syntax ((m (syntax-rules () ((_) 1) ((_ x . y) (n . y)))) (n (syntax-rules () ((_) 2) ((_ x . y) (m . y))))) (cons (m a b) (m a b c)))", "(prim cons (quote 1) (quote 2))")
	wantWrong(t, "(let-syntax ((m (syntax-rules () ((_) 1) ((_ x . y) (n . y)))) (n (syntax-rules () ((_) 2)))) (m a b))", 0, api.ErrExpandFree)
	for _, s := range []string{"let-syntax", "letrec-syntax"} {
		r := " (syntax-rules ())"
		for _, shape := range []string{"", " ()", " x 1", " ((m" + r + "))", " ((m" + r + " 1)) 1", " ((1" + r + ")) 1", " ((m)) 1", " (m" + r + ") 1", " ((m 1)) 1", " ((m (m))) 1", " ((m (syntax-rules))) 1", " ((m car)) 1", " ((m ())) 1", " ((m . 1)) 1", " () . 1", " ((m (syntax-rules () (x)))) 1"} {
			wantWrong(t, "("+s+shape+")", 0, api.ErrExpandForm)
		}
		wantWrong(t, "("+s+" ((m 1) (m"+r+")) 1)", 0, api.ErrExpandTwice)
		wantWrong(t, "("+s+" ((m (syntax-rules () ((m x ...) x))) (n 1)) 1)", 0, api.ErrRulesDepth)
		wantWrong(t, "("+s+" ((m"+r+") (n 1)) y)", 0, api.ErrExpandForm)
		wantWrong(t, "("+s+" ((m"+r+")) (m))", 0, api.ErrRulesNone)
		wantWrong(t, "("+s+" ((m"+r+")) m)", 0, api.ErrExpandUse)
		want(t, "("+s+" ((m"+r+")) (define (m) 1) (m))", "(letrec ((v.0 (lambda () (quote 1)))) (call v.0))")
	}
	// Of the rules' word, too, it says where it is looked for.
	want(t, "(let-syntax ((syntax-rules (syntax-rules ())) (m (syntax-rules () ((_) 1)))) (m))", "(quote 1)")
	wantWrong(t, "(letrec-syntax ((syntax-rules (syntax-rules ())) (m (syntax-rules () ((_) 1)))) (m))", 0, api.ErrExpandForm)
	wantWrong(t, "(let ((syntax-rules 1)) (let-syntax ((m (syntax-rules ()))) 1))", 0, api.ErrExpandForm)
}

func TestDefinitionsAreNoExpressions(t *testing.T) {
	for _, s := range []string{"(define x 1)", "(define (f) 1)", "(define-syntax m (syntax-rules ()))", "(syntax-rules ())", "(define)", "(syntax-rules)"} {
		wantWrong(t, "(write-u8 "+s+")", 0, api.ErrExpandForm)
		wantWrong(t, "(if 1 "+s+")", 0, api.ErrExpandForm)
		wantWrong(t, "(lambda () 1 "+s+")", 0, api.ErrExpandForm)
		wantWrong(t, "(let-syntax () "+s+")", 0, api.ErrExpandForm)
	}
}

func TestWhatIsNoDatumOfAnExpression(t *testing.T) {
	for _, l := range [][]api.Datum{rows(list()), rows(dotted(sym("car"), integer(1))), rows(dotted(sym("if"), integer(1))), rows(dotted(integer(1), integer(1))), rows(dotted(list(), sym("x")))} {
		wantWrongData(t, l, 5, 0, api.ErrExpandForm)
	}
}
