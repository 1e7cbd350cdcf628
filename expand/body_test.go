package expand

import (
	"scrimshaw/api"
	"testing"
)

// P7.2, of bodies: each is put into a lambda.

func wantBody(t *testing.T, body, expr string) {
	t.Helper()
	want(t, "(lambda () "+body+")", "(lambda () "+expr+")")
}

func wantWrongBody(t *testing.T, body string, errno api.Errno) {
	t.Helper()
	wantWrong(t, "(lambda () "+body+")", 0, errno)
}

func TestBodies(t *testing.T) {
	wantBody(t, "1", "(quote 1)")
	wantBody(t, "1 2 3", "(begin (quote 1) (quote 2) (quote 3))")
	wantBody(t, "(define x 1) x", "(letrec ((v.0 (quote 1))) v.0)")
	wantBody(t, "(define x y) (define y x) x y", "(letrec ((v.0 v.1) (v.1 v.0)) (begin v.0 v.1))")
	wantBody(t, "(define (f) 1) (f)", "(letrec ((v.0 (lambda () (quote 1)))) (call v.0))")
	wantBody(t, "(define (f x y) (define z x) (f z)) (f)", "(letrec ((v.0 (lambda (v.1 v.2) (letrec ((v.3 v.1)) (call v.0 v.3))))) (call v.0))")
	wantBody(t, "(define (f f) f) f", "(letrec ((v.0 (lambda (v.1) v.1))) v.0)")
	wantBody(t, "(define x 1) (set! x x)", "(letrec ((v.0 (quote 1))) (set! v.0 v.0))")
	// A definition is of the body's own place, and holds also of what stands ahead of it.
	want(t, "(lambda (x) (define y x) (define x 1) y)", "(lambda (v.0) (letrec ((v.1 v.2) (v.2 (quote 1))) v.1))")
	wantWrongBody(t, "(define x 1)", api.ErrExpandForm)
	wantWrongBody(t, "(define x y)", api.ErrExpandForm)
	wantWrongBody(t, "(define-syntax m (syntax-rules ()))", api.ErrExpandForm)
	wantWrongBody(t, "(begin)", api.ErrExpandForm)
	wantWrongBody(t, "(define x 1) (define x 2)", api.ErrExpandTwice)
	wantWrongBody(t, "(define x (car)) (define x 2) x", api.ErrExpandTwice)
	wantWrongBody(t, "(define x (car)) y", api.ErrExpandCount)
	wantWrongBody(t, "(define x y) (define z (car)) y", api.ErrExpandFree)
	wantWrongBody(t, "1 (define x 1) x", api.ErrExpandForm)
	wantWrongBody(t, "(define x 1) 2 (define y 1) x", api.ErrExpandForm)
}

func TestBeginInBodies(t *testing.T) {
	wantBody(t, "(begin) 1 2", "(begin (quote 1) (quote 2))")
	wantBody(t, "(begin 1 2) 3", "(begin (quote 1) (quote 2) (quote 3))")
	wantBody(t, "1 (begin 2 3)", "(begin (quote 1) (begin (quote 2) (quote 3)))")
	wantBody(t, "(begin (define x 1) (begin) (begin (define y x) (begin y) 2)) (begin 3) x", "(letrec ((v.0 (quote 1)) (v.1 v.0)) (begin v.1 (quote 2) (quote 3) v.0))")
	wantBody(t, "(begin (begin (define x 1))) x", "(letrec ((v.0 (quote 1))) v.0)")
	wantWrongBody(t, "1 (begin)", api.ErrExpandForm)
	wantWrongBody(t, "(begin 1 (define x 1)) 2", api.ErrExpandForm)
	wantWrongBody(t, "(begin . 1)", api.ErrExpandForm)
	wantWrongBody(t, "(begin 1 . 2) 3", api.ErrExpandForm)
	// Where begin means something else, it brings nothing.
	want(t, "(lambda (begin) (begin 1) 2)", "(lambda (v.0) (begin (call v.0 (quote 1)) (quote 2)))")
	wantWrongBody(t, "(define begin 1) (begin (define x 1)) x", api.ErrExpandForm)
}

func TestShapesOfDefinitions(t *testing.T) {
	for _, s := range []string{"(define)", "(define x)", "(define x 1 2)", "(define 1 2)", "(define \"x\" 2)", "(define () 1)", "(define (1) 1)", "(define ((f x) y) x)", "(define . x)", "(define x . 1)", "(define (f . x) x)", "(define #(f) 1)",
		"(define-syntax)", "(define-syntax m)", "(define-syntax 1 (syntax-rules ()))", "(define-syntax (m) (syntax-rules ()))", "(define-syntax m (syntax-rules ()) 1)", "(define-syntax m 1)", "(define-syntax m car)", "(define-syntax m syntax-rules)", "(define-syntax m (m))", "(define-syntax m (syntax-rules))", "(define-syntax . m)"} {
		wantWrongBody(t, s+" 1", api.ErrExpandForm)
		wantWrong(t, s+" 1", 0, api.ErrExpandForm)
		wantWrong(t, "1 "+s, 1, api.ErrExpandForm)
	}
	// The shape of the lambda that is said by a definition is looked at when that is expanded.
	for _, s := range []string{"(define (f))", "(define (f 1) 2)", "(define (f x (y)) 2)", "(define (f x) (define y 1))"} {
		wantWrongBody(t, s+" 1", api.ErrExpandForm)
		wantWrongBody(t, s+" (define f 1) 1", api.ErrExpandTwice)
		wantWrongBody(t, "(define g (car)) "+s+" 1", api.ErrExpandCount)
		wantWrong(t, s+" (define f 1)", 1, api.ErrExpandTwice)
	}
	wantWrongBody(t, "(define (f a b c d e f g) y) 1", api.ErrExpandCount)
	wantWrongBody(t, "(define (f x x) y) 1", api.ErrExpandTwice)
	wantBody(t, "(define (f a b c d e f) f) 1", "(letrec ((v.0 (lambda (v.1 v.2 v.3 v.4 v.5 v.6) v.6))) (quote 1))")
	// It is the lambda of the base, whatever the word means.
	want(t, "(lambda (lambda) (define (f) 1) f)", "(lambda (v.0) (letrec ((v.1 (lambda () (quote 1)))) v.1))")
	want(t, "(define (lambda) 1) (define (f) 2) f", "(letrec ((v.0 (lambda () (quote 1))) (v.1 (lambda () (quote 2)))) v.1)")
	want(t, "(lambda (define) (define (define) 1))", "(lambda (v.0) (call v.0 (call v.0) (quote 1)))")
}

func TestMacrosInBodies(t *testing.T) {
	const m = "(define-syntax m (syntax-rules () ((_ x ...) (begin x ...)))) "
	wantBody(t, m+"1", "(quote 1)")
	wantBody(t, m+"(m) (m (define x 1) (m (define y 2))) (m 3 4) x", "(letrec ((v.0 (quote 1)) (v.1 (quote 2))) (begin (quote 3) (quote 4) v.0))")
	wantBody(t, m+"1 (m 2)", "(begin (quote 1) (quote 2))")
	wantWrongBody(t, m+"1 (m)", api.ErrExpandForm)
	wantWrongBody(t, m+m+"1", api.ErrExpandTwice)
	wantWrongBody(t, m+"(define m 1) m", api.ErrExpandTwice)
	wantWrongBody(t, "(define m 1) "+m+"m", api.ErrExpandTwice)
	wantWrongBody(t, "(define m 1) (define-syntax m 1) m", api.ErrExpandTwice)
	wantWrongBody(t, "(define-syntax m 1) (define m 1) (define m 1) m", api.ErrExpandForm)
	wantWrongBody(t, "(define-syntax m (syntax-rules () ((m m ...) m))) (define m 1)", api.ErrRulesDepth)
	// A macro of a body is of no use ahead of where it is defined, but in what is expanded later.
	wantBody(t, "(define (f) (m 1)) "+m+"f", "(letrec ((v.0 (lambda () (quote 1)))) v.0)")
	wantWrongBody(t, "(m (define x 1)) "+m+"f", api.ErrExpandFree)
	// What makes definitions of its own names makes no others.
	wantWrongBody(t, "(define-syntax d (syntax-rules () ((_) (define x 1)))) (d) x", api.ErrExpandFree)
	wantBody(t, "(define-syntax d (syntax-rules () ((_) (define x 1)))) (d) (d) 2", "(letrec ((v.0 (quote 1)) (v.1 (quote 1))) (quote 2))")
	wantBody(t, "(define-syntax d (syntax-rules () ((_ y) (begin (define x 1) (define (y) x))))) (define x 2) (d y) (cons x y)", "(letrec ((v.0 (quote 2)) (v.1 (quote 1)) (v.2 (lambda () v.1))) (prim cons v.0 v.2))")
	wantBody(t, "(define-syntax d (syntax-rules () ((_ y) (define-syntax y (syntax-rules () ((_ z) (car z))))))) (d n) (n 1)", "(prim car (quote 1))")
	// A dotted use is one, too.
	wantBody(t, "(define-syntax d (syntax-rules () ((_ . y) (define y 1)))) (d . x) x", "(letrec ((v.0 (quote 1))) v.0)")
	wantUses(t, "(lambda () "+m+"(m (m)) (m 1))", 3)
	wantUses(t, "(lambda () "+m+"(m 0 (m 1)) (m 1))", 3)
}

func TestShadowedMacros(t *testing.T) {
	// Of a body's definition a macro of outside is hidden, from there on and in what is expanded later.
	want(t, "(lambda () (define (when x) x) (when 1))", "(lambda () (letrec ((v.0 (lambda (v.1) v.1))) (call v.0 (quote 1))))")
	want(t, "(lambda (when) (when 1))", "(lambda (v.0) (call v.0 (quote 1)))")
	want(t, "(define (list x) x) (list 1)", "(letrec ((v.0 (lambda (v.1) v.1))) (call v.0 (quote 1)))")
	want(t, "(lambda () (when 1 2) 3)", "(lambda () (begin (if (quote 1) (quote 2) (prim void)) (quote 3)))")
	want(t, "(define let 1) (define or 2) (cond (1) (let => car))", "(letrec ((v.0 (quote 1)) (v.1 (quote 2))) (let ((v.2 (quote 1))) (if v.2 v.2 (let ((v.3 v.0)) (if v.3 (prim car v.3) (prim void))))))")
}
