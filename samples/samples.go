// Package samples is no layer: it has whole programs, by which the tests of several layers go.
package samples

// Programs are sources of programs whose runs end, on any short input.
func Programs() []string {
	const fact = "(define (fact n) (if (< n 2) 1 (* n (fact (- n 1))))) "
	const wind = "(define (w n) (lambda () (write-u8 n))) "
	return []string{
		"(+ 1 2)", fact + "(fact 12)", fact + "(fact 30)", "(let loop ((i 0)) (if (= i 5000) 'done (loop (+ i 1))))",
		"(define k #f) (define n 0) (define l '()) (set! l (cons (call/cc (lambda (c) (set! k c) 0)) l)) (set! n (+ n 1)) (if (< n 4) (k n)) l",
		"(dynamic-wind (lambda () (write-u8 40)) (lambda () (call/cc (lambda (k) (k 5)))) (lambda () (write-u8 41)))",
		"(define-syntax swap! (syntax-rules () ((_ a b) (let ((tmp a)) (set! a b) (set! b tmp))))) (let ((tmp 1) (y 2)) (swap! tmp y) (list tmp y))",
		"(let loop ((c (read-u8))) (if (eof-object? c) 'end (begin (write-u8 c) (loop (read-u8)))))",
		"(vector-ref (make-vector 2 0) 2)", "'(1 \"two\" #(3 4))", "(1 2)", "((lambda (x) x))", "(error)", "(car (if (read-u8) 'a 'b))",
		wind + "(define k #f) (define n 0) (dynamic-wind (w 40) (lambda () (dynamic-wind (w 91) (lambda () (call/cc (lambda (c) (set! k c))) (set! n (+ n 1))) (w 93))) (w 41)) (if (< n 3) (k n)) n",
		wind + "(call/cc (lambda (k) (dynamic-wind (w 40) (lambda () (dynamic-wind (w 91) (lambda () (k 7)) (w 93))) (w 41))))",
		"(map (lambda (x) (* x x)) '(1 2 3))", "(define y (f)) (define (f) x) (define x 1) (list y (f))",
		"(define (even n) (if (= n 0) #t (odd (- n 1)))) (define (odd n) (if (= n 0) #f (even (- n 1)))) (list (even 1000) (odd 7) (even 7))",
		"(define (down n) (if (= n 0) '() (cons n (down (- n 1))))) (list (length (down 9)) (apply + (map (lambda (x) (* x x)) (down 2))) (equal? (down 3) '(3 2 1)))",
		"(letrec ((k 0) (n 0) (l '()) (x (call/cc (lambda (c) (set! k c) 0)))) (set! l (cons (lambda () x) l)) (set! n (+ n 1)) (if (< n 3) (k n) (map (lambda (f) (f)) l)))",
		"(let ((k 0) (n 0) (l '())) (let ((x (call/cc (lambda (c) (set! k c) 0)))) (set! l (cons (lambda () x) l)) (set! n (+ n 1)) (if (< n 3) (k n) (map (lambda (f) (f)) l))))",
		"(define (counter n) (lambda () (set! n (+ n 1)) n)) (define a (counter 1)) (define b (counter 5)) (a) (a) (b) (list (a) (b))",
		"(let ((x 5) (y 7)) (cond ((< y x) 'less) ((= x y) 'same) (else (let* ((z (* x y)) (w (- z 1))) (list z w)))))",
		"(define v (vector-ref '#(1 \"two\" (3 4)) 2)) (do ((i 0 (+ i 1)) (l '() (cons (car v) l))) ((= i 3) l))",
		`(define (leaves tree)
	   (define out #f)
	   (define in (lambda (x) (go tree) (out '())))
	   (define (go t) (cond ((pair? t) (go (car t)) (go (cdr t))) ((null? t) (void)) (else (call/cc (lambda (k) (set! in k) (out t))))))
	   (lambda () (call/cc (lambda (k) (set! out k) (in 0)))))
	 (define (same a b) (let loop ((x (a)) (y (b))) (cond ((null? x) (null? y)) ((eq? x y) (loop (a) (b))) (else #f))))
	 (list (same (leaves '((1 2) (3 (4)))) (leaves '(1 (2 (3)) 4))) (same (leaves '(1 2 3)) (leaves '(1 3 2))) (same (leaves '(1 2)) (leaves '(1 2 3))))`,
		`(define back (lambda (x) 'none))
	 (define (choose l) (call/cc (lambda (k) (let ((was back)) (let try ((l l)) (if (null? l) (begin (set! back was) (was 0)) (begin (call/cc (lambda (next) (set! back next) (k (car l)))) (try (cdr l)))))))))
	 (let* ((a (choose '(1 2 3 4 5 6 7 8 9))) (b (choose '(1 2 3 4 5 6 7 8 9))) (c (choose '(5 6 7 8 9 10))))
	   (if (= (* c c) (+ (* a a) (* b b))) (list a b c) (back 0)))`,
		"(define (all) (let ((c (read-u8))) (if (eof-object? c) '() (cons c (all))))) (define l (all)) (for-each write-u8 l) (for-each write-u8 (reverse l)) (length l)",
	}
}
