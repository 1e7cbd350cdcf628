package fix

import (
	"fmt"
	"scrimshaw/api"
	"scrimshaw/model"
	"strconv"
	"strings"
	"testing"
)

// Where there are so many names that the chapter's way would take too many steps: variables come to be cells.

// wantCells is of an expression whose names get cells, and that shows something.
func wantCells(t *testing.T, s, shown string) {
	t.Helper()
	if out := wantValue(t, s, shown); !has(out, makesVector) {
		t.Errorf("%s: no cells: %s", s, textOf(out))
	}
}

func TestCells(t *testing.T) {
	all := "(cons a (cons b (cons c (cons d (cons e g)))))"
	wantCells(t, "(letrec ((a (car (cons 1 2))) (b (+ a 1)) (c (+ b 1)) (d (+ c 1)) (e (+ d 1)) (g (+ e 1))) "+all+")", "(1 2 3 4 5 . 6)")
	wantCells(t, "(letrec ((a (pair? 1)) (b c) (c d) (d e) (e g) (g 1)) "+all+")", "(#f unset unset unset unset . 1)")
	wantCells(t, "(letrec ((a (car (cons 7 8))) (b a) (c b) (d c) (e d) (g e)) (begin (set! a 9) (set! c 5) "+all+"))", "(9 7 5 7 7 . 7)")
	wantCells(t, "(letrec ((a (car (cons 7 8))) (b 1) (c b) (d (+ c 1)) (e d) (g e)) "+all+")", "(7 1 1 2 2 . 2)")
	// What is copied has the value that it had then.
	wantCells(t, "(letrec ((b e) (c d) (a (begin (set! d 2) (car (cons 7 8)))) (d d) (e d) (g e) (h c) (i 1) (j 1)) (cons h (cons i (cons j "+all+"))))", "(unset 1 1 7 unset unset 2 2 . 2)")
	wantCells(t, "(letrec ((a (car (cons 7 8))) (b d) (c 1) (d 5) (e b) (g c)) "+all+")", "(7 unset 1 5 unset . 1)")
	wantCells(t, "(letrec ((a (car (cons 7 8))) (b 1) (c (set! b 5)) (d b) (e c) (g d)) "+all+")", "(7 5 void 5 void . 5)")
	wantCells(t, "(letrec ((a (car (cons 7 8))) (b (read-u8)) (c b) (d (%winders)) (e d) (g b)) (begin (%wind! 5) "+all+"))", "(7 eof eof () () . eof)")
	wantCells(t, "(let ((x 1)) (letrec ((a (car (cons 7 8))) (b x) (c b) (d (set! x 2)) (e x) (g b)) "+all+"))", "(7 1 1 void 2 . 1)")
	// Functions of the same ExpRec, and of others, see them, and set them.
	wantCells(t, "(letrec ((a (f)) (f (lambda () (begin (set! g 5) (set! h 6) c))) (b g) (c 3) (d (f)) (e h) (g 7) (h 8) (i 9)) (cons h (cons i "+all+")))", "(8 9 unset 5 3 3 6 . 7)")
	wantCells(t, "(letrec ((a (let ((f (lambda () (set! g 5)))) (begin (f) f))) (b g) (c 3) (d (a)) (e g) (g 7)) (begin (a) (cons b (cons c (cons d (cons e g))))))", "(5 3 void 5 . 5)")
	// One may be of a name that is bound within as well.
	wantCells(t, "(letrec ((a (car (cons 1 2))) (b 2) (c (let ((b 3)) (begin (set! b (+ b 1)) b))) (d ((lambda (b c) (cons b c)) 5 6)) (e (letrec ((b b)) b)) (g b)) "+all+")", "(1 2 4 (5 . 6) unset . 2)")
	// Each evaluation has some of its own.
	made := "(lambda (x) (letrec ((a (car x)) (b a) (c a) (d a) (e a) (g a)) (lambda () (begin (set! b (+ b 1)) (set! g (+ g b)) " + all + "))))"
	wantCells(t, "(let ((f "+made+")) (let ((x (f (cons 10 0))) (y (f (cons 20 0)))) (begin (x) (y) (x) (cons (x) (y)))))", "((10 13 10 10 10 . 46) 20 22 20 20 20 . 63)")
}

func TestCellsAgain(t *testing.T) {
	// There is one of each, however often what was ahead of it is gone back to; what was kept the first time sees the last value.
	kept := "(begin (if (= n 0) (set! first (lambda () (cons b (cons c (cons d (cons e g)))))) 0) (set! n (+ n 1)) (if (< n 3) (k n) (first)))"
	wantCells(t, "(let ((k 0) (n 0) (first 0)) (letrec ((a (%callcc (lambda (c) (begin (set! k c) 0)))) (b (+ a 10)) (c a) (d c) (e (cons d a)) (g 5)) "+kept+"))", "(12 2 2 (2 . 2) . 5)")
	// Of an ExpRec behind what is gone back to there is another one each time.
	inner := "(letrec ((p (car (cons b 0))) (q p) (r p) (s p) (u p)) (lambda () (cons p (cons q (cons r (cons s u))))))"
	wantCells(t, "(let ((k 0) (n 0) (first 0)) (letrec ((a (%callcc (lambda (c) (begin (set! k c) 0)))) (b a) (c "+inner+") (d a) (e a) (g a)) "+strings.Replace(kept, "(lambda () (cons b (cons c (cons d (cons e g)))))", "(lambda () (c))", 1)+"))", "(2 2 2 2 . 2)")
	wantCells(t, "(let ((k 0) (n 0) (first 0)) (letrec ((a (%callcc (lambda (c) (begin (set! k c) 0)))) (b a) (c "+inner+") (d a) (e a) (g a)) "+strings.Replace(kept, "(lambda () (cons b (cons c (cons d (cons e g)))))", "c", 1)+"))", "(0 0 0 0 . 0)")
}

// An ExpRec that is joined to another one: there is room for the names of both.
func TestRoomOfBoth(t *testing.T) {
	wantText(t, "(letrec ((x (letrec ((y (car z)) (u 2)) (cons y u))) (v 3)) (cons x v))",
		"(let ((v.2 (%unset)) (v.3 (%unset)) (v.0 (%unset)) (v.1 (%unset))) (begin (set! v.2 (car z)) (set! v.3 2) (set! v.0 (cons v.2 v.3)) (set! v.1 3) (cons v.0 v.1)))")
	seven := "(letrec ((x (letrec ((a (car y)) " + many(5, "#") + ") " + asked(5) + ")) (z x)) z)"
	if out := wantFixed(t, of(seven), ""); has(out, makesVector) {
		t.Error(textOf(out))
	}
	eight := "(letrec ((x (letrec ((a (car y)) " + many(6, "#") + ") " + asked(6) + ")) (z x)) z)"
	if out := wantFixed(t, of(eight), ""); !has(out, makesVector) {
		t.Error(textOf(out))
	}
}

// That it is joined is to be seen in what comes of it, too.
func TestJoined(t *testing.T) {
	wantJoined := func(s, shown string) {
		t.Helper()
		out := wantValue(t, s, shown)
		for _, kid := range out.Kids[:len(out.Kids)-1] {
			if kid.Kind != api.ExpPrim {
				t.Fatalf("%s: %s", s, textOf(out))
			}
		}
		if kids := out.Kids[len(out.Kids)-1].Kids; has(api.Expr{Kids: kids}, func(e api.Expr) bool { return e.Kind == api.ExpLet }) {
			t.Errorf("%s: %s", s, textOf(out))
		}
	}
	wantJoined("(letrec ((x (letrec ((x (car (cons 1 2))) (y 2) (z x) (u 3) (v 4)) (cons x (cons y (cons z (cons u v)))))) (y 5) (z 6) (u 7)) (cons x (cons y (cons z u))))", "((1 2 1 3 . 4) 5 6 . 7)")
	// Its functions are there ahead of its values; those of what it is joined to are, too; but what it is itself comes in its order.
	wantJoined("(letrec ((x (letrec ((y (f)) (f (lambda () (cons (procedure? g) (procedure? x)))) (z 1) (u 2) (v 3)) (begin y z u v (set! z 5) (lambda () (cons y z))))) (g (lambda () 1)) (y 2) (z 3) (u 4) (v 5) (w 6)) (begin y z u v w (x)))", "((#t . #f) . 5)")
	wantJoined("(letrec ((x (letrec ((y (procedure? x)) (z 1) (u 2) (v 3) (w 4)) (lambda () (cons y (cons z (cons u (cons v w))))))) (y (procedure? x)) (z x) (u y)) (begin (set! x (x)) (cons x (cons y (cons (procedure? z) u)))))", "((#f 1 2 3 . 4) #t #t . #t)")
	wantJoined("(letrec ((x (letrec ((f (lambda () (set! f 5))) (y (f)) (z f) (u 1) (v 2) (w 3)) (begin y z u v w f))) (f (lambda () 1)) (y x) (z (f)) (u y)) (begin (set! f 7) (cons x (cons y (cons z (cons u f))))))", "(5 5 1 5 . 7)")
	wantJoined("(letrec ((x (letrec ((y (car (cons 1 2))) (z 1) (u 2) (v 3) (w 4)) (begin y z u v w (lambda () y)))) (y x) (z x) (u 5) (v y) (w 6)) (begin u w (cons (eq? x y) (cons (eq? z v) (eq? x v)))))", "(#t #t . #t)")
	wantJoined("(letrec ((x (letrec ((y (car (cons 1 2))) (z 1) (u 2) (v 3) (w 4) (o 5)) (lambda () (cons y (cons z (cons u (cons v (cons w o)))))))) (y x) (z y) (u z) (v u) (w v)) (cons (eq? x y) (cons (eq? z w) (eq? u w))))", "(#t #t . #t)")
	// Behind what can't go wrong, and of several.
	wantJoined("(letrec ((a 1) (b a) (x (letrec ((a (read-u8)) (y (car (cons a b))) (z 1) (u 2) (v 3) (w 4) (o 5)) (begin (set! b y) (cons z (cons u (cons v (cons w o))))))) (y 5) (z 6) (u 7) (v 8) (w 9)) (cons v (cons w (cons a (cons b (cons x (cons y (cons z u))))))))", "(8 9 1 eof (1 2 3 4 . 5) 5 6 . 7)")
	wantJoined("(letrec ((x (letrec ((x (letrec ((x (car (cons 1 2))) (y 3)) (cons x y))) (y 4) (z 5)) (cons x (cons y z)))) (y 6) (z 7) (u 8)) (cons x (cons y (cons z u))))", "(((1 . 3) 4 . 5) 6 7 . 8)")
}

func TestMoreCellsThanAVectorHas(t *testing.T) {
	n := api.MaxFill + 10
	e := api.Expr{Kind: api.ExpRec, Names: []string{"a"}, Kids: []api.Expr{of("(car (cons 5 6))")}}
	for i := range n {
		e.Names = append(e.Names, "x"+strconv.Itoa(i))
		e.Kids = append(e.Kids, ref(e.Names[i]))
	}
	e.Kids = append(e.Kids, ref(e.Names[n]))
	out := wantFixed(t, e, "")
	if o := model.Run(out, "", enough); o.Err != api.OK || o.Shown.Int != 5 || !has(out, makesVector) {
		t.Error(o)
	}
}

// many are so many bindings of x0, x1, .. to what a text with their number says.
func many(n int, to string) string {
	var l []string
	for i := range n {
		l = append(l, fmt.Sprintf("(x%d %s)", i, strings.ReplaceAll(to, "#", strconv.Itoa(i))))
	}
	return strings.Join(l, " ")
}

// counts are how many names the tests have: some, about as many as there is room for, and many.
func counts() []int { return []int{0, 1, 2, 3, 4, 5, 6, 7, 8, 9, 10, 12, 14, 20, 40} }

// asked asks for each of them.
func asked(n int) string {
	out := "(begin a a"
	for i := range n {
		out += " x" + strconv.Itoa(i)
	}
	return out + ")"
}

// What goes wrong at once, ahead of however many.
func TestEarlyEnd(t *testing.T) {
	for _, n := range counts() {
		for _, wrong := range []string{
			"(error)", "(car 1)", "(begin 1 (error))", "(if #f 1 (error))", "(set! x0 (error))", "(let () (error))", "(let ((y 1)) (car y))", "(y (error))", "(y)", "(f)", "((lambda () (error)))", "(g 1)",
			"(let ((h (lambda () " + asked(n) + "))) (begin (h) (error)))", "(begin (set! a (lambda () " + asked(n) + ")) (a) (car a))",
		} {
			for _, rest := range []string{many(n, "#"), many(n, "(read-u8)"), many(n, "y"), many(n, "(car y)"), many(n, "(letrec ((y y)) y)")} {
				wantFixed(t, of("(let ((x0 0)) (letrec ((a "+wrong+") "+rest+") "+asked(n)+"))"), "12")
				wantFixed(t, of("(letrec ((b 1) (c (read-u8)) (a "+wrong+") (d b) "+rest+") (begin b c d "+asked(n)+"))"), "12")
				ahead, askedAhead := "", "(begin a a"
				for i := range n / 3 {
					ahead += fmt.Sprintf("(z%d x%d) ", i, n-1-i)
					askedAhead += fmt.Sprintf(" z%d", i)
				}
				wantFixed(t, of("(letrec ("+ahead+"(a "+wrong+") "+rest+") (begin "+asked(n)+askedAhead+")))"), "12")
				wantFixed(t, of("(letrec ((a "+wrong+") "+rest+" (f (lambda () (error))) (g (lambda (y) (begin (set! g y) (error))))) (begin (f) "+asked(n)+"))"), "12")
			}
		}
	}
}

// Each of them within the first value of another one.
func TestEarlyEndWithin(t *testing.T) {
	for n := range 12 {
		for _, around := range []string{"$", "(car $)", "(begin 1 $)", "(let ((z $)) z)", "(if $ 1 2)", "((lambda (z) z) $)"} {
			for _, ahead := range []string{"", "(o 1) ", "(f (lambda () (begin (set! x0 5) a))) ", "(o 1) (f (lambda () a)) (g (lambda () (set! g 1))) "} {
				e := of("(error)")
				for range 18 {
					s := "(letrec (" + ahead + "(a " + strings.ReplaceAll(around, "$", "inner") + ") " + many(n, "#") + ") " + asked(n) + ")"
					e = with(of("(let ((x0 0)) " + s + ")").Kids[1], e)
				}
				wantFixed(t, api.Expr{Kind: api.ExpLet, Names: []string{"x0"}, Kids: []api.Expr{number(1), e}}, "")
			}
		}
	}
}

// with has an expression in the place of what is named inner.
func with(e, inner api.Expr) api.Expr {
	if e.Kind == api.ExpRef && e.Name == "inner" {
		return inner
	}
	var kids []api.Expr
	for _, kid := range e.Kids {
		kids = append(kids, with(kid, inner))
	}
	e.Kids = kids
	return e
}

// What leaves at once, and is come to again and again.
func TestLeftEarly(t *testing.T) {
	for _, n := range counts() {
		for _, first := range []string{"(k 7)", "(begin (k 7) 1)", "(%callcc k)", "(let ((f (lambda () " + asked(n) + "))) (k f))"} {
			for _, rest := range []string{many(n, "#"), many(n, "a"), many(n, "(car i)")} {
				rec := "(letrec ((a " + first + ") " + rest + ") " + asked(n) + ")"
				e := of("(letrec ((loop (lambda (i) (if (= i 0) 'done (begin (%callcc (lambda (k) " + rec + ")) (loop (- i 1))))))) (loop 30))")
				wantFixed(t, e, "")
			}
		}
	}
}

// What does not go wrong takes no more steps than it may, either: each value by itself, and each made of the one ahead.
func TestAllSet(t *testing.T) {
	for _, n := range counts() {
		for _, first := range []string{"1", "(read-u8)", "(car y)", "(begin 1 2)", "((lambda (x) x) 5)", "(%callcc (lambda (k) (k 1)))", "(letrec ((x (car y)) (b 1)) b)"} {
			for _, to := range []string{"#", "a", "(+ a 1)", "(read-u8)", "(lambda () a)", "(car y)", "(letrec ((x a)) x)", "(if a 1 2)"} {
				wantFixed(t, of("(let ((y (cons 1 2))) (letrec ((a "+first+") "+many(n, to)+") "+asked(n)+"))"), "12")
			}
			chain := ""
			for i := range n {
				chain += fmt.Sprintf(" (x%d x%d)", i+1, i)
			}
			for _, to := range []string{"a", "1", "y"} {
				wantFixed(t, of("(let ((y (cons 1 2))) (letrec ((a "+first+") (x0 "+to+")"+chain+") (cons a x"+strconv.Itoa(n)+")))"), "12")
			}
		}
	}
}
