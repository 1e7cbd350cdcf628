package model

import (
	"scrimshaw/api"
	"strings"
	"testing"
)

// The chapter's table of kinds, line by line: the value, the order, the steps.

func TestQuote(t *testing.T) {
	for _, s := range []string{"#f", "#t", "0", "1", "-1", "1152921504606846975", "-1152921504606846976", "#\\a", "a", "...", strings.Repeat("z", 64), "()"} {
		wantOutcome(t, quote(datum(s)), "", 1, outcome(api.OK, s, "", 1))
		wantOutcome(t, quote(datum(s)), "", 0, outcome(api.ErrRunSteps, "", "", 0))
	}
	for n := range 256 {
		d := api.Datum{Kind: api.DatChar, Int: n}
		wantOutcome(t, quote(d), "", 1, api.Outcome{Shown: d, Whole: true, Steps: 1})
	}
	// What is quoted is the same each time.
	wantValue(t, "(eq? 'a 'a)", "#t", 3)
	wantValue(t, "(eq? '() '())", "#t", 3)
}

func TestRefAndSet(t *testing.T) {
	wantValue(t, "(let ((x 1)) x)", "1", 3)
	wantValue(t, "(let ((x 1)) (set! x 2))", "void", 4)
	wantValue(t, "(let ((x 1)) (begin (set! x 2) x))", "2", 6)
	wantValue(t, "(let ((x 1)) (begin (set! x (+ x x)) (set! x (+ x x)) x))", "4", 12)
	// The variable that is meant is the innermost one.
	wantValue(t, "(let ((x 1)) (begin (let ((x 2)) (set! x 3)) x))", "1", 8)
	wantValue(t, "(let ((x 1)) (let ((y 2)) (begin (set! x 3) (set! y 4) (cons x y))))", "(3 . 4)", 12)
	wantValue(t, "(let ((x 1) (y 2)) (let ((x y) (y x)) (let ((z x)) (begin (set! x 9) (cons x (cons y z))))))", "(9 1 . 2)", 16)
	// The kid is evaluated first, and may set the same one.
	wantValue(t, "(let ((x 1)) (begin (set! x (begin (set! x 5) (+ x 1))) x))", "6", 11)
	wantValue(t, "(let ((x 1)) (set! x (set! x 2)))", "void", 5)
	wantValue(t, "(let ((x 1)) (begin (set! x (set! x 2)) x))", "void", 7)
	// A name that is a primitive's or a kind's own word.
	wantValue(t, "(let ((car 1)) (let ((if 2)) (+ car if)))", "3", 7)
}

func TestIf(t *testing.T) {
	wantValue(t, "(if #t 1 2)", "1", 3)
	wantValue(t, "(if #f 1 2)", "2", 3)
	for _, s := range []string{"0", "'()", "'f", "#\\f", "(void)", "(%unset)", "(read-u8)", "(lambda () #f)"} {
		wantValue(t, "(if "+s+" 1 2)", "1", 3)
	}
	wantValue(t, "(if (cons #f #f) 1 2)", "1", 5)
	wantValue(t, "(if (%box #f) 1 2)", "1", 4)
	wantValue(t, "(if (make-vector 0 #f) 1 2)", "1", 5)
	wantValue(t, "(if (< 1 1) 1 2)", "2", 5)
	wantValue(t, "(if (if #f #f #t) (if #t 1 2) 3)", "1", 7)
	// Only one of the two is evaluated.
	wantWritten(t, "(if (begin (write-u8 65) #f) (write-u8 66) (write-u8 67))", "", "void", "AC", 7)
	wantWritten(t, "(if (begin (write-u8 65) 0) (write-u8 66) (write-u8 67))", "", "void", "AB", 7)
	wantValue(t, "(if #f (error) 1)", "1", 3)
	wantValue(t, "(if #t 1 (error))", "1", 3)
}

func TestSeq(t *testing.T) {
	wantValue(t, "(begin 1 2)", "2", 3)
	wantWritten(t, "(begin (write-u8 65) (write-u8 66) (write-u8 67) 5)", "", "5", "ABC", 8)
	wantWritten(t, "(begin (begin (write-u8 65) (write-u8 66)) (begin (write-u8 67) 5))", "", "5", "ABC", 10)
	wantWrong(t, "(begin (write-u8 65) (error) (write-u8 66))", "", api.ErrRunUser, "A", 4)
}

func TestLam(t *testing.T) {
	wantValue(t, "(lambda () 1)", "procedure", 1)
	wantValue(t, "(lambda (a b c d e f) (error))", "procedure", 1)
	wantValue(t, "(procedure? (lambda () 1))", "#t", 2)
	// Each evaluation makes another one.
	wantValue(t, "(eq? (lambda () 1) (lambda () 1))", "#f", 3)
	wantValue(t, "(let ((f (lambda () (lambda () 1)))) (eq? (f) (f)))", "#f", 9)
	wantValue(t, "(let ((f (lambda () 1))) (eq? f f))", "#t", 5)
}

func TestCall(t *testing.T) {
	wantValue(t, "((lambda () 5))", "5", 3)
	wantValue(t, "((lambda (x) x) 5)", "5", 4)
	wantValue(t, "((lambda (a b c d e f) (cons a (cons b (cons c (cons d (cons e f)))))) 1 2 3 4 5 6)", "(1 2 3 4 5 . 6)", 19)
	// What is called is evaluated first, then what with, in order.
	wantWritten(t, "((begin (write-u8 65) (lambda (x y) (write-u8 68))) (write-u8 66) (write-u8 67))", "", "void", "ABCD", 11)
	// Names mean what they meant where the function was evaluated.
	wantValue(t, "(let ((x 1)) (let ((f (lambda () x))) (let ((x 2)) (f))))", "1", 9)
	wantValue(t, "(let ((x 1)) (let ((f (lambda (y) (cons x y)))) (let ((x 2)) (f x))))", "(1 . 2)", 12)
	wantValue(t, "(let ((x 1)) (let ((f (lambda (x) (set! x 5)))) (begin (f 2) x)))", "1", 11)
	wantValue(t, "(let ((x 1)) (let ((f (lambda (y) (set! x y)))) (begin (f 2) x)))", "2", 11)
	// Each call has variables of its own.
	wantValue(t, "(let ((f (lambda (x) (lambda () (begin (set! x (+ x 1)) x))))) (let ((a (f 0)) (b (f 10))) (begin (a) (a) (b) (cons (a) (b)))))", "(3 . 12)", 53)
	wantValue(t, "(letrec ((f (lambda (n) (if (< n 2) 1 (* n (f (- n 1))))))) (f 5))", "120", 54)
}

func TestCallOfWhatIsNone(t *testing.T) {
	for _, s := range []string{"#f", "#t", "0", "1", "#\\a", "'a", "'()", "(void)", "(%unset)", "(read-u8)"} {
		wantWrong(t, "("+s+")", "", api.ErrRunProc, "", 2)
		wantWrong(t, "("+s+" (write-u8 65) (write-u8 66))", "", api.ErrRunProc, "AB", 6)
	}
	for _, s := range []string{"(cons 0 0)", "(make-vector 0 0)", "(make-string 0 #\\a)"} {
		wantWrong(t, "("+s+" 1)", "", api.ErrRunProc, "", 5)
	}
	wantWrong(t, "((%box (lambda () 1)))", "", api.ErrRunProc, "", 3)
	// A number is none, also where there is a procedure of that number.
	wantWrong(t, "(let ((f (lambda () 1))) (0))", "", api.ErrRunProc, "", 4)
	wantWrong(t, "(let ((f (lambda () 1)) (c #\\\x00)) (c))", "", api.ErrRunProc, "", 5)
	// What is called with is evaluated first: its error comes ahead.
	wantWrong(t, "(1 (error))", "", api.ErrRunUser, "", 3)
	wantWrong(t, "((error) (write-u8 65))", "", api.ErrRunUser, "", 2)
}

func TestCallWithAnotherNumber(t *testing.T) {
	parameters := strings.Fields("a b c d e f")
	for n := range 7 {
		for given := range 7 {
			s := "((lambda (" + strings.Join(parameters[:n], " ") + ") 7)" + strings.Repeat(" 1", given) + ")"
			if n == given {
				wantValue(t, s, "7", 3+given)
			} else {
				wantWrong(t, s, "", api.ErrRunCount, "", 2+given)
			}
		}
	}
	wantWrong(t, "((lambda (x) (write-u8 65)) (write-u8 66) (write-u8 67))", "", api.ErrRunCount, "BC", 6)
}

func TestLet(t *testing.T) {
	wantValue(t, "(let () 5)", "5", 2)
	wantValue(t, "(let ((x 1)) (let () (let ((y 2)) (cons x y))))", "(1 . 2)", 8)
	wantWritten(t, "(let ((x (write-u8 65)) (y (write-u8 66)) (z 3)) (begin (write-u8 67) z))", "", "3", "ABC", 10)
	// What they are bound to is evaluated outside.
	wantValue(t, "(let ((x 1)) (let ((x (+ x 1)) (y x)) (cons x y)))", "(2 . 1)", 10)
	wantValue(t, "(let ((x 1)) (let ((y (set! x 5)) (x x)) (begin (set! x 6) x)))", "6", 10)
	wantValue(t, "(let ((x 1)) (begin (let ((y (set! x 5)) (x x)) (set! x 6)) x))", "5", 10)
	wantValue(t, "(let ((f 1)) (let ((f (lambda () f))) (f)))", "1", 7)
	// Each time there are new ones.
	wantValue(t, "(let ((f (lambda () (let ((x 0)) (lambda () (begin (set! x (+ x 1)) x)))))) (let ((a (f)) (b (f))) (begin (a) (a) (cons (a) (b)))))", "(3 . 1)", 47)
}

func TestRec(t *testing.T) {
	for _, s := range []string{"letrec", "fix"} {
		wantValue(t, "("+s+" ((f (lambda () 5))) (f))", "5", 5)
		wantValue(t, "("+s+" ((even (lambda (n) (if (= n 0) #t (odd (- n 1))))) (odd (lambda (n) (if (= n 0) #f (even (- n 1)))))) (cons (even 7) (odd 7)))", "(#f . #t)", 146)
		// Names mean these, whatever they mean outside.
		wantValue(t, "(let ((f 1)) ("+s+" ((f (lambda (n) (if (= n 0) 'end (f 0))))) (f 1)))", "end", 19)
		wantValue(t, "(let ((f 1)) (begin ("+s+" ((f (lambda () (set! f 2)))) (f)) f))", "1", 10)
		// One may be set, by a function of its own too.
		wantValue(t, "("+s+" ((f (lambda () (begin (set! f 2) 1)))) (cons (f) f))", "(1 . 2)", 10)
	}
	wantValue(t, "(letrec () 5)", "5", 2)
	wantValue(t, "(letrec ((x 1)) x)", "1", 3)
	wantValue(t, "(letrec ((x y) (y 1)) x)", "unset", 4)
	wantValue(t, "(letrec ((x 1) (y x)) y)", "1", 4)
	wantValue(t, "(letrec ((x x)) x)", "unset", 3)
	wantValue(t, "(let ((x 1)) (letrec ((x x)) x))", "unset", 5)
	// Functions are there ahead of all others, also of those that stand ahead of them.
	wantValue(t, "(letrec ((x (f)) (f (lambda () 7))) x)", "7", 6)
	wantValue(t, "(letrec ((a f) (x (procedure? f)) (f (lambda () 7)) (g (lambda () f))) (cons x (eq? a f)))", "(#t . #t)", 11)
	wantWrong(t, "(letrec ((x (error)) (f (lambda () 7)) (g (lambda () 8))) x)", "", api.ErrRunUser, "", 4)
	wantWrong(t, "(letrec ((f (lambda () 7)) (x (error)) (g (lambda () 8))) x)", "", api.ErrRunUser, "", 4)
	// Only what is an ExpLam itself is one of them.
	wantValue(t, "(letrec ((x f) (f (let () (lambda () 7)))) x)", "unset", 5)
	// The others come in order, and each is there for the next one.
	wantWritten(t, "(letrec ((a (write-u8 65)) (f (lambda () (write-u8 69))) (b (write-u8 66)) (c (f)) (d (write-u8 68))) (cons a c))", "", "(void . void)", "ABED", 15)
	wantValue(t, "(letrec ((a 1) (b (+ a 1)) (c (+ a b))) c)", "3", 9)
	wantWrong(t, "(letrec ((a (+ b 1)) (b 1)) a)", "", api.ErrRunType, "", 4)
}
