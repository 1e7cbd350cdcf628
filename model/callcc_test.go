package model

import (
	"scrimshaw/api"
	"testing"
)

// Continuations: what they are called with, and what is done behind them, how often it may be.

func TestContinuation(t *testing.T) {
	wantValue(t, "(%callcc (lambda (k) 5))", "5", 3)
	wantValue(t, "(%callcc (lambda (k) (k 5)))", "5", 5)
	wantValue(t, "(+ 1 (%callcc (lambda (k) (* 2 (k 5)))))", "6", 9)
	wantValue(t, "(+ 1 (%callcc (lambda (k) (* 2 5))))", "11", 7)
	wantValue(t, "(%callcc (lambda (k) k))", "procedure", 3)
	wantValue(t, "(procedure? (%callcc (lambda (k) k)))", "#t", 4)
	wantValue(t, "(%callcc (lambda (k) (cons (eq? k k) (procedure? k))))", "(#t . #t)", 8)
	// Each is a thing of its own.
	wantValue(t, "(%callcc (lambda (k) (%callcc (lambda (l) (eq? k l)))))", "#f", 7)
	wantValue(t, "(let ((f (lambda (k) k))) (eq? (%callcc f) (%callcc f)))", "#f", 9)
	// What is called with a continuation may be one: it is told the new one.
	wantValue(t, "(%callcc (lambda (k) (%callcc k)))", "procedure", 4)
	wantValue(t, "(cons 1 (%callcc (lambda (k) (begin (%callcc k) (error)))))", "(1 . procedure)", 7)
	wantWrong(t, "((%callcc (lambda (k) (%callcc k))) 5)", "", api.ErrRunProc, "", 7)
	wantValue(t, "(let ((x 0)) (eq? (%callcc (lambda (k) (begin (set! x k) (%callcc k)))) x))", "#f", 11)
}

func TestContinuationWithAnotherNumber(t *testing.T) {
	wantWrong(t, "(%callcc (lambda (k) (k)))", "", api.ErrRunCount, "", 4)
	wantWrong(t, "(%callcc (lambda (k) (k 1 2)))", "", api.ErrRunCount, "", 6)
	wantWrong(t, "(%callcc (lambda (k) (k 1 2 3 4 5 (write-u8 65))))", "", api.ErrRunCount, "A", 11)
	wantWrong(t, "(%callcc (lambda () 1))", "", api.ErrRunCount, "", 2)
	wantWrong(t, "(%callcc (lambda (a b) 1))", "", api.ErrRunCount, "", 2)
	for _, s := range []string{"0", "#f", "'car", "'()", "(void)", "(%unset)", "(read-u8)", "#\\a"} {
		wantWrong(t, "(%callcc "+s+")", "", api.ErrRunProc, "", 2)
	}
	wantWrong(t, "(%callcc (cons 1 2))", "", api.ErrRunProc, "", 4)
}

// What was still to be done is done in the place of what is now, wherever the value is awaited.
func TestContinuationOfEachKind(t *testing.T) {
	wantValue(t, "(let ((x 1)) (begin (set! x (%callcc (lambda (k) (+ 1 (k 5))))) x))", "5", 12)
	wantValue(t, "(if (%callcc (lambda (k) (+ 1 (k #f)))) 1 2)", "2", 9)
	wantValue(t, "(begin (%callcc (lambda (k) (begin (k 1) (error)))) 7)", "7", 8)
	wantValue(t, "(begin 7 (%callcc (lambda (k) (begin (k 1) (error)))))", "1", 8)
	wantValue(t, "((%callcc (lambda (k) (k (lambda (x) (+ x 1))))) 5)", "6", 10)
	wantValue(t, "((lambda (a b c) (cons a (cons b c))) 1 (%callcc (lambda (k) (+ 1 (k 2)))) 3)", "(1 2 . 3)", 16)
	wantValue(t, "(cons (%callcc (lambda (k) (+ 1 (k 2)))) (%callcc (lambda (k) (+ 1 (k 3)))))", "(2 . 3)", 15)
	wantValue(t, "(let ((a 1) (b (%callcc (lambda (k) (+ 1 (k 2))))) (c 3)) (cons a (cons b c)))", "(1 2 . 3)", 15)
	wantValue(t, "(let () (%callcc (lambda (k) (+ 1 (k 2)))))", "2", 8)
	wantValue(t, "(letrec ((a 1) (b (%callcc (lambda (k) (+ 1 (k 2))))) (c b)) (cons a (cons b c)))", "(1 2 . 2)", 15)
	wantValue(t, "(+ 1 ((lambda (f) (f 7)) (lambda (x) (%callcc (lambda (k) (+ 100 (k x)))))))", "8", 15)
}

// Any number of times, also when what it was made in has ended: what was there ahead of it is as it was, each time.
func TestContinuationAgain(t *testing.T) {
	again := func(s string) string {
		// n counts the values that k was told, from 0 on; what s makes is put ahead of l.
		return "(let ((k 0) (n 0) (l '())) (begin (set! l (cons " + s + " l)) (set! n (+ n 1)) (if (< n 4) (k n) l)))"
	}
	c := "(%callcc (lambda (c) (begin (set! k c) 0)))"
	for _, x := range [][2]string{
		{c, "(3 2 1 0)"},
		{"(+ 10 " + c + ")", "(13 12 11 10)"},
		{"(cons " + c + " (cons 7 8))", "((3 7 . 8) (2 7 . 8) (1 7 . 8) (0 7 . 8))"},
		{"((lambda (a b c) (cons a (cons b c))) 7 " + c + " 8)", "((7 3 . 8) (7 2 . 8) (7 1 . 8) (7 0 . 8))"},
		{"(let ((a 7) (b " + c + ") (c 8)) (cons a (cons b c)))", "((7 3 . 8) (7 2 . 8) (7 1 . 8) (7 0 . 8))"},
		{"(letrec ((a 7) (b " + c + ") (c b)) (cons a (cons b c)))", "((7 3 . 3) (7 2 . 2) (7 1 . 1) (7 0 . 0))"},
		{"(if (= " + c + " 2) 'two 'other)", "(other two other other)"},
		{"(begin 7 " + c + ")", "(3 2 1 0)"},
		{"(begin " + c + " 7)", "(7 7 7 7)"},
		{"(let ((x 7)) (begin (set! x " + c + ") (cons x x)))", "((3 . 3) (2 . 2) (1 . 1) (0 . 0))"},
		{"((lambda (a) (let ((b (+ a 1))) (cons " + c + " b))) 7)", "((3 . 8) (2 . 8) (1 . 8) (0 . 8))"},
		// Of a vector, and of a pair, there is one: what was put into it is there.
		{"(let ((v (make-vector 1 0))) (let ((x " + c + ")) (begin (vector-set! v 0 (+ x (vector-ref v 0))) (vector-ref v 0))))", "(6 3 1 0)"},
		// Of a name that is bound behind it there is a new variable each time; of one that was bound ahead of it there is one.
		{"(let ((a 0) (x " + c + ")) (begin (set! a (+ a 1)) (cons x a)))", "((3 . 1) (2 . 1) (1 . 1) (0 . 1))"},
		{"(let ((a 0)) (let ((x " + c + ")) (begin (set! a (+ a 1)) (cons x a))))", "((3 . 4) (2 . 3) (1 . 2) (0 . 1))"},
		{"((lambda (a x) (begin (set! a (+ a 1)) (cons x a))) 0 " + c + ")", "((3 . 1) (2 . 1) (1 . 1) (0 . 1))"},
		{"((lambda (a) ((lambda (x) (begin (set! a (+ a 1)) (cons x a))) " + c + ")) 0)", "((3 . 4) (2 . 3) (1 . 2) (0 . 1))"},
		{"(letrec ((a 0) (x " + c + ")) (begin (set! a (+ a 1)) (cons x a)))", "((3 . 4) (2 . 3) (1 . 2) (0 . 1))"},
		{"(letrec ((x " + c + ") (a 0)) (begin (set! a (+ a 1)) (cons x a)))", "((3 . 1) (2 . 1) (1 . 1) (0 . 1))"},
		{"(letrec ((x " + c + ") (f (lambda () x))) (f))", "(3 2 1 0)"},
	} {
		wantShown(t, of(again(x[0])), "", x[1], "")
	}
}

// A letrec's variables are bound once, whenever what they are bound to comes; a let's are new each time it comes.
func TestFunctionsSeeTheirVariables(t *testing.T) {
	for _, x := range [][2]string{
		{"(letrec ((k 0) (n 0) (l '()) (x (%callcc (lambda (c) (begin (set! k c) 0))))) (begin (set! l (cons (lambda () x) l)) (set! n (+ n 1)) (if (< n 3) (k n) (cons ((car l)) (cons ((car (cdr l))) ((car (cdr (cdr l)))))))))", "(2 2 . 2)"},
		{"(let ((k 0) (n 0) (l '())) (let ((x (%callcc (lambda (c) (begin (set! k c) 0))))) (begin (set! l (cons (lambda () x) l)) (set! n (+ n 1)) (if (< n 3) (k n) (cons ((car l)) (cons ((car (cdr l))) ((car (cdr (cdr l))))))))))", "(2 1 . 0)"},
		{"(let ((k 0) (n 0) (l '())) (let ((y 5) (x (%callcc (lambda (c) (begin (set! k c) 0))))) (begin (set! y (+ y x)) (set! l (cons (lambda () y) l)) (set! n (+ n 1)) (if (< n 3) (k n) (begin (set! y 50) (cons ((car l)) (cons ((car (cdr l))) ((car (cdr (cdr l)))))))))))", "(50 6 . 5)"},
	} {
		wantShown(t, of(x[0]), "", x[1], "")
	}
}

// What was read, written, set and wound, and the steps, are as they were when a continuation was called, not as when it was made.
func TestWhatAContinuationLeaves(t *testing.T) {
	wantWritten(t, "(let ((k 0) (n 0)) (begin (write-u8 (read-u8)) (%wind! n) (%callcc (lambda (c) (set! k c))) (write-u8 (read-u8)) (set! n (+ n 1)) (if (< n 3) (begin (%wind! n) (k 0)) (cons n (cons (%winders) (read-u8))))))", "abcdef", "(3 2 . 101)", "abcd", 59)
	wantWritten(t, "(begin (%callcc (lambda (k) (begin (write-u8 65) (%wind! 5) (k (write-u8 66)) (write-u8 67)))) (write-u8 68) (%winders))", "", "5", "ABD", 15)
}

// Two hand on to one another; when the first one has ended, the second one is begun once more, and goes back to where it was.
func TestContinuationsOfTwo(t *testing.T) {
	wantShown(t, of(`(let ((there 0) (l '())) (letrec
		((put (lambda (x) (set! l (cons x l))))
		 (yield (lambda () (%callcc (lambda (here) (let ((to there)) (begin (set! there here) (to 0)))))))
		 (run (lambda (x n) (if (= n 0) 'end (begin (put (+ x n)) (yield) (run x (- n 1)))))))
		(begin (%callcc (lambda (k) (begin (set! there k) (run 10 3)))) (run 20 3) l)))`), "", "(23 21 11 22 12 23 13)", "")
}
