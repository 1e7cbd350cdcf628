package expand

import (
	"scrimshaw/api"
	"slices"
	"strings"
	"testing"
)

// P7.2, of constants: what builds them stands at the head of the program.

func TestBuildings(t *testing.T) {
	want(t, "'(a)", "(let ((v.0 (prim cons (quote a) (quote ())))) v.0)")
	want(t, "'(1 . 2)", "(let ((v.0 (prim cons (quote 1) (quote 2)))) v.0)")
	want(t, "'(1 #\\a . #t)", "(let ((v.0 (prim cons (quote 1) (prim cons (quote #\\a) (quote #t))))) v.0)")
	want(t, "'((a) ())", "(let ((v.0 (prim cons (prim cons (quote a) (quote ())) (prim cons (quote ()) (quote ()))))) v.0)")
	want(t, "''a", "(let ((v.0 (prim cons (quote quote) (prim cons (quote a) (quote ()))))) v.0)")
	want(t, "'(a . \"\")", "(let ((v.0 (prim cons (quote a) (let ((v.1 (prim make-string (quote 0) (quote #\\x00)))) v.1)))) v.0)")
	for _, quote := range []string{"", "'"} {
		want(t, quote+"\"\"", "(let ((v.0 (let ((v.1 (prim make-string (quote 0) (quote #\\x00)))) v.1))) v.0)")
		want(t, quote+"\"a\\xff\"", "(let ((v.0 (let ((v.1 (prim make-string (quote 2) (quote #\\x00)))) (begin (prim string-set! v.1 (quote 0) (quote #\\a)) (prim string-set! v.1 (quote 1) (quote #\\xff)) v.1)))) v.0)")
		want(t, quote+"#()", "(let ((v.0 (let ((v.1 (prim make-vector (quote 0) (quote #f)))) v.1))) v.0)")
		want(t, quote+"#(x (1))", "(let ((v.0 (let ((v.1 (prim make-vector (quote 2) (quote #f)))) (begin (prim vector-set! v.1 (quote 0) (quote x)) (prim vector-set! v.1 (quote 1) (prim cons (quote 1) (quote ()))) v.1)))) v.0)")
		want(t, quote+"#(#(5))", "(let ((v.0 (let ((v.1 (prim make-vector (quote 1) (quote #f)))) (begin (prim vector-set! v.1 (quote 0) (let ((v.2 (prim make-vector (quote 1) (quote #f)))) (begin (prim vector-set! v.2 (quote 0) (quote 5)) v.2))) v.1)))) v.0)")
	}
	// In the order in which they are come to, ahead of all else, each as often as it is.
	want(t, "(define x '(a)) (define (f) (cons '(b) '(a))) (f)", "(let ((v.0 (prim cons (quote a) (quote ()))) (v.1 (prim cons (quote b) (quote ()))) (v.2 (prim cons (quote a) (quote ())))) (letrec ((v.3 v.0) (v.4 (lambda () (prim cons v.1 v.2)))) (call v.4)))")
	want(t, "(lambda () (define x '(a)) (define y '(b)) '(c))", "(let ((v.0 (prim cons (quote a) (quote ()))) (v.1 (prim cons (quote b) (quote ()))) (v.2 (prim cons (quote c) (quote ())))) (lambda () (letrec ((v.3 v.0) (v.4 v.1)) v.2)))")
	want(t, "(not '(a))", "(let ((v.0 (prim cons (quote a) (quote ())))) (letrec ((v.1 (lambda (v.2) (if v.2 (quote #f) (quote #t))))) (call v.1 v.0)))")
}

func TestSizesOfBuildings(t *testing.T) {
	for _, c := range []struct {
		d    api.Datum
		fits bool
	}{
		{list(slices.Repeat(rows(integer(1)), 248)...), true}, {list(slices.Repeat(rows(integer(1)), 249)...), false}, // 250 deep, and 251
		{dotted(slices.Repeat(rows(integer(1)), 249)...), true}, {dotted(slices.Repeat(rows(integer(1)), 250)...), false},
		{text(strings.Repeat("a", 1022)), true}, {text(strings.Repeat("a", 1023)), false}, // of a byte 4 expressions, of the text 6, and 2 of the program
		{vector(slices.Repeat(rows(integer(1)), 1022)...), true}, {vector(slices.Repeat(rows(integer(1)), 1023)...), false},
		{text(strings.Repeat("a", 4096)), false}, {vector(slices.Repeat(rows(text(strings.Repeat("a", 4096))), 4000)...), false},
	} {
		l := rows(list(sym("quote"), c.d))
		if c.fits {
			if _, n, wrong := Program(l, 0); n != 0 || wrong != api.OK {
				t.Errorf("%.300s: %d, %v", textOf(c.d), n, wrong)
			}
		} else {
			wantWrongData(t, l, 0, 1, api.ErrExpandMany)
		}
	}
	// An error of the program is told ahead of what has no room.
	big := text(strings.Repeat("a", 4096))
	wantWrongData(t, append(slices.Repeat(rows(big), 4000), sym("y")), 0, 4000, api.ErrExpandFree)
	wantWrongData(t, slices.Repeat(rows(big), 4096), 0, 4096, api.ErrExpandMany)
}
