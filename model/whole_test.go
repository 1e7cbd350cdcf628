package model

import (
	"scrimshaw/api"
	"strings"
	"testing"
)

// Whole programs, by way of the layers below: the chapter's examples, and those of the whole.

func wantProgram(t *testing.T, source, input, shown, output string) {
	t.Helper()
	wantShown(t, program(t, source), input, shown, output)
}

func wantProgramWrong(t *testing.T, source string, wrong api.Errno, output string) {
	t.Helper()
	e := program(t, source)
	wantOutcome(t, e, "", api.MaxSteps, outcome(wrong, "", output, Run(e, "", api.MaxSteps).Steps))
}

func TestExamples(t *testing.T) {
	wantOutcome(t, program(t, "(+ 1 2)"), "", 100, outcome(api.OK, "3", "", 3))
	wantProgramWrong(t, "(car 1)", api.ErrRunType, "")
	wantProgramWrong(t, "(1 2)", api.ErrRunProc, "")
	wantProgramWrong(t, "((lambda (x) x))", api.ErrRunCount, "")
	wantProgramWrong(t, "(error)", api.ErrRunUser, "")
	wantProgram(t, "(begin (write-u8 65) (read-u8))", "x", "120", "A")
	wantProgram(t, "(letrec ((x y) (y 1)) x)", "", "unset", "")
	wantProgram(t, "(+ 1 (%callcc (lambda (k) (* 2 (k 5)))))", "", "6", "")
}

func TestExamplesOfTheWhole(t *testing.T) {
	fact := "(define (fact n) (if (< n 2) 1 (* n (fact (- n 1))))) "
	wantProgram(t, fact+"(fact 12)", "", "479001600", "")
	wantProgramWrong(t, fact+"(fact 30)", api.ErrRunOver, "")
	wantOutcome(t, program(t, "(let loop ((i 0)) (if (= i 50000) 'done (loop (+ i 1))))"), "", api.MaxSteps, outcome(api.OK, "done", "", 5+50000*9+5))
	wantProgram(t, "(define k #f) (define n 0) (define l '()) (set! l (cons (call/cc (lambda (c) (set! k c) 0)) l)) (set! n (+ n 1)) (if (< n 4) (k n)) l", "", "(3 2 1 0)", "")
	wantProgram(t, "(dynamic-wind (lambda () (write-u8 40)) (lambda () (call/cc (lambda (k) (k 5)))) (lambda () (write-u8 41)))", "", "5", "()")
	wantProgram(t, "(define-syntax swap! (syntax-rules () ((_ a b) (let ((tmp a)) (set! a b) (set! b tmp))))) (let ((tmp 1) (y 2)) (swap! tmp y) (list tmp y))", "", "(2 1)", "")
	wantProgram(t, "(let loop ((c (read-u8))) (if (eof-object? c) 'end (begin (write-u8 c) (loop (read-u8)))))", "hello", "end", "hello")
	wantProgramWrong(t, "(vector-ref (make-vector 2 0) 2)", api.ErrRunRange, "")
	wantProgram(t, "'(1 \"two\" #(3 4))", "", "(1 \"two\" #(3 4))", "")
}

// What was wound in is wound out and in by the common ancestor.
func TestWinding(t *testing.T) {
	wind := "(define (w n) (lambda () (write-u8 n))) "
	wantProgram(t, wind+"(define k #f) (define n 0) (dynamic-wind (w 40) (lambda () (dynamic-wind (w 91) (lambda () (call/cc (lambda (c) (set! k c))) (set! n (+ n 1))) (w 93))) (w 41)) (if (< n 3) (k n)) n", "", "3", "([])([])([])")
	wantProgram(t, wind+"(call/cc (lambda (k) (dynamic-wind (w 40) (lambda () (dynamic-wind (w 91) (lambda () (k 7)) (w 93))) (w 41))))", "", "7", "([])")
	wantProgram(t, wind+"(define k #f) (define n 0) (dynamic-wind (w 40) (lambda () (dynamic-wind (w 91) (lambda () (call/cc (lambda (c) (set! k c)))) (w 93)) (if (< n 2) (dynamic-wind (w 60) (lambda () (set! n (+ n 1)) (k n)) (w 62)))) (w 41)) n", "", "2", "([]<>[]<>[])")
	wantProgramWrong(t, wind+"(dynamic-wind (w 40) (lambda () (car 1)) (w 41))", api.ErrRunType, "(")
}

func TestPrograms(t *testing.T) {
	wantProgram(t, "(map (lambda (x) (* x x)) '(1 2 3))", "", "(1 4 9)", "")
	wantProgram(t, "(define (count n) (let ((v (make-vector n 0))) (do ((i 0 (+ i 1))) ((= i n) v) (vector-set! v i (* i i))))) (count 6)", "", "#(0 1 4 9 16 25)", "")
	wantProgram(t, "(define x 1) (define (f) x) (define y (f)) (set! x 2) (list y (f))", "", "(1 2)", "")
	wantProgram(t, "(define y (f)) (define (f) x) (define x 1) (list y (f))", "", "(unset 1)", "")
	// Trees gone over side by side, each handing its leaves out one by one.
	wantProgram(t, `
(define (leaves tree)
  (define out #f)
  (define in (lambda (x) (go tree) (out '())))
  (define (go t) (cond ((pair? t) (go (car t)) (go (cdr t))) ((null? t) (void)) (else (call/cc (lambda (k) (set! in k) (out t))))))
  (lambda () (call/cc (lambda (k) (set! out k) (in 0)))))
(define (same a b) (let loop ((x (a)) (y (b))) (cond ((null? x) (null? y)) ((eq? x y) (loop (a) (b))) (else #f))))
(list (same (leaves '((1 2) (3 (4)))) (leaves '(1 (2 (3)) 4))) (same (leaves '(1 2 3)) (leaves '(1 3 2))) (same (leaves '(1 2)) (leaves '(1 2 3))))`, "", "(#t #f #f)", "")
	// Of those that a choice goes back to, the first that fits.
	wantProgram(t, `
(define back (lambda (x) 'none))
(define (choose l) (call/cc (lambda (k) (let ((was back)) (let try ((l l)) (if (null? l) (begin (set! back was) (was 0)) (begin (call/cc (lambda (next) (set! back next) (k (car l)))) (try (cdr l)))))))))
(let* ((a (choose '(1 2 3 4 5 6 7 8 9))) (b (choose '(1 2 3 4 5 6 7 8 9))) (c (choose '(5 6 7 8 9 10))))
  (if (= (* c c) (+ (* a a) (* b b))) (list a b c) (back 0)))`, "", "(3 4 5)", "")
	long := strings.Repeat("scrimshaw ", 200)
	wantProgram(t, "(define (all) (let ((c (read-u8))) (if (eof-object? c) '() (cons c (all))))) (define l (all)) (for-each write-u8 l) (for-each write-u8 (reverse l)) (length l)", long, "2000", long+backward(long))
}

func backward(s string) string {
	var out []byte
	for i := len(s) - 1; i >= 0; i-- {
		out = append(out, s[i])
	}
	return string(out)
}
