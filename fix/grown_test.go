package fix

import (
	"math/rand"
	"scrimshaw/api"
	"scrimshaw/core"
	"scrimshaw/expand"
	"scrimshaw/model"
	"scrimshaw/read"
	"strconv"
	"testing"
)

// What is promised of all expressions, held against the model on those that are grown, and on programs.

// grower grows expressions that mostly tell numbers. It has few names, so that they hide others; wide is how many an expression binds, fewer than that.
type grower struct {
	*rand.Rand
	wide  int
	scope []variable
}

// variable is a number's, or that of a function of so many parameters.
type variable struct {
	name     string
	function bool
	wants    int
}

func (g *grower) one(in int) bool { return g.Intn(in) == 0 }

func kind(kind int, kids ...api.Expr) api.Expr { return api.Expr{Kind: kind, Kids: kids} }

// grown is an expression with names for a continuation that is gone back to, and for how often it still may be.
func (g *grower) grown() api.Expr {
	g.scope = []variable{{"left", false, 0}, {"back", true, 1}, {"free", false, 0}}
	e := g.expr(3 + g.Intn(5))
	return api.Expr{Kind: api.ExpLet, Names: []string{"left", "back"}, Kids: []api.Expr{number(g.Intn(5)), of("(lambda (x) x)"), e}}
}

func (g *grower) expr(depth int) api.Expr {
	if depth <= 0 || g.one(5) {
		return g.leaf()
	}
	next := func() api.Expr { return g.expr(depth - 1) }
	switch g.Intn(12) {
	case 0:
		return prim([]string{"+", "-", "eq?", "cons", "quotient"}[g.Intn(5)], next(), next())
	case 1:
		return kind(api.ExpIf, prim("<", next(), next()), next(), next())
	case 2:
		return kind(api.ExpSeq, g.effect(depth-1), next())
	case 3, 4:
		return g.call(depth - 1)
	case 5:
		return prim("%callcc", g.function([]variable{{"k", true, 1}}, depth-1))
	case 6:
		return prim("%callcc", api.Expr{Kind: api.ExpLam, Names: []string{"k"}, Kids: []api.Expr{kind(api.ExpSeq, of("(set! back k)"), next())}})
	case 7:
		again := kind(api.ExpSeq, of("(set! left (- left 1))"), kind(api.ExpCall, ref("back"), next()))
		return kind(api.ExpIf, of("(< 0 left)"), again, next())
	}
	return g.binding(depth)
}

func (g *grower) leaf() api.Expr {
	for range 3 {
		if v := g.scope[g.Intn(len(g.scope))]; !v.function || g.one(20) {
			return ref(v.name)
		}
	}
	if g.one(4) {
		return prim([]string{"read-u8", "read-u8", "%winders", "error"}[g.Intn(4)])
	}
	return number(g.Intn(9))
}

func (g *grower) effect(depth int) api.Expr {
	if g.one(2) {
		return prim("write-u8", number(65+g.Intn(26)))
	}
	v := g.scope[g.Intn(len(g.scope))]
	if v.function {
		return api.Expr{Kind: api.ExpSet, Name: v.name, Kids: []api.Expr{g.function(g.variables(v.wants), depth)}}
	}
	return api.Expr{Kind: api.ExpSet, Name: v.name, Kids: []api.Expr{g.expr(depth)}}
}

func (g *grower) call(depth int) api.Expr {
	v := g.scope[g.Intn(len(g.scope))]
	out := kind(api.ExpCall, ref(v.name))
	if !v.function {
		v.wants = g.Intn(3)
		out = kind(api.ExpCall, g.function(g.variables(v.wants), depth))
	}
	for range v.wants {
		out.Kids = append(out.Kids, g.expr(depth))
	}
	return out
}

// variables are so many new ones.
func (g *grower) variables(n int) []variable {
	var l []variable
	for _, i := range g.Perm(n + 2)[:n] {
		l = append(l, variable{"v" + strconv.Itoa(i), false, 0})
	}
	return l
}

func (g *grower) function(l []variable, depth int) api.Expr {
	out := api.Expr{Kind: api.ExpLam}
	for _, v := range l {
		out.Names = append(out.Names, v.name)
	}
	was := g.scope
	g.scope = append(was[:len(was):len(was)], l...)
	out.Kids = []api.Expr{g.expr(depth)}
	g.scope = was
	return out
}

func (g *grower) binding(depth int) api.Expr {
	out := api.Expr{Kind: []int{api.ExpLet, api.ExpRec, api.ExpRec, api.ExpRec, api.ExpFix}[g.Intn(5)]}
	l := g.variables(1 + g.Intn(g.wide))
	functions := g.Intn(4)
	was := g.scope
	inner := append(was[:len(was):len(was)], l...)
	for i := range l {
		if out.Kind == api.ExpFix || g.Intn(6) < functions {
			l[i].function, l[i].wants = true, g.Intn(3)
			inner[len(was)+i] = l[i]
		}
	}
	for _, v := range l {
		out.Names = append(out.Names, v.name)
		if out.Kind != api.ExpLet {
			g.scope = inner
		}
		switch {
		case v.function:
			out.Kids = append(out.Kids, g.function(g.variables(v.wants), depth-2))
		case g.one(3):
			out.Kids = append(out.Kids, g.leaf())
		default:
			out.Kids = append(out.Kids, g.expr(depth-1))
		}
	}
	g.scope = inner
	out.Kids = append(out.Kids, g.expr(depth-1))
	g.scope = was
	return out
}

func TestGrown(t *testing.T) {
	for seed, wide := range []int{3, 4, 5, 6, 8, 8, 10, 12} {
		t.Run(strconv.Itoa(seed), func(t *testing.T) {
			t.Parallel()
			g := &grower{Rand: rand.New(rand.NewSource(int64(seed))), wide: wide}
			came := map[api.Errno]int{}
			vectors := 0
			for range 300 {
				e := g.grown()
				if core.Check(e) != api.OK {
					continue
				}
				if out, wrong := Fix(e); wrong == api.ErrPassMany {
					wantBig(t, e)
					continue
				} else if has(out, makesVector) {
					vectors++
				}
				wantFixed(t, e, "12a")
				wantFixed(t, e, "")
				came[model.Run(closed(e, core.Free(e), 3), "12a", enough).Err]++
			}
			if came[api.OK] < 100 || came[api.ErrRunType] < 10 || came[api.ErrRunUser] < 2 || wide > 5 && vectors < 10 {
				t.Error(came, vectors)
			}
		})
	}
}

// wantBig is that an expression isn't small.
func wantBig(t *testing.T, e api.Expr) {
	t.Helper()
	if expressions, within := size(e); expressions <= 400 && within <= 25 {
		t.Fatalf("ErrPassMany of %d, %d within one another: %s", expressions, within, textOf(e))
	}
}

// size is how many expressions there are, and how many within one another.
func size(e api.Expr) (expressions, within int) {
	for _, kid := range e.Kids {
		n, deep := size(kid)
		expressions += n
		within = max(within, deep)
	}
	return expressions + 1, within + 1
}

// Small ones in which as much as may be becomes more than one: of each shape as many as are small.
func TestSmall(t *testing.T) {
	for _, shape := range []string{
		"(letrec ((a (car inner)) (b a) (c b) (d c) (e d) (g e)) (begin a b c d e g))",
		"(letrec ((a (car 1)) (b a) (c a) (d a) (e inner) (g (set! e (set! d c)))) (begin a b c d e g))",
		"(letrec ((a (letrec ((x (car 1)) (y inner)) (begin x y))) (b a) (c b) (d c) (e d)) (begin a b c d e))",
		"(letrec ((f (lambda (x) (set! f inner))) (g (lambda () (set! g f))) (x (f g)) (y x)) (begin x y))",
		"(fix ((f (lambda (x) (set! f inner)))) f)",
		"(letrec ((x inner)) x)",
		"(letrec ((f (lambda () inner)) (x (f)) (y (set! x f))) y)",
	} {
		e, was := of("(car 1)"), api.Expr{}
		for {
			was, e = e, with(of("(let ((inner 0)) " + shape + ")").Kids[1], e)
			if expressions, within := size(e); expressions > 400 || within > 25 {
				break
			}
		}
		wantFixed(t, was, "")
	}
	for n := 1; ; n++ {
		e := of("(letrec ((a (car 1)) " + many(n, "a") + " (f (lambda () " + asked(n) + "))) (f))")
		if expressions, _ := size(e); expressions > 400 {
			break
		}
		wantFixed(t, e, "")
	}
}

func TestPrograms(t *testing.T) {
	for _, x := range [][3]string{
		{"(+ 1 2)", "", "3"},
		{"(define (fact n) (if (< n 2) 1 (* n (fact (- n 1))))) (fact 12)", "", "479001600"},
		{"(let loop ((i 0)) (if (= i 100) 'done (loop (+ i 1))))", "", "done"},
		{"(define k #f) (define n 0) (define l '()) (set! l (cons (call/cc (lambda (c) (set! k c) 0)) l)) (set! n (+ n 1)) (if (< n 4) (k n)) l", "", "(3 2 1 0)"},
		{"(dynamic-wind (lambda () (write-u8 40)) (lambda () (call/cc (lambda (k) (k 5)))) (lambda () (write-u8 41)))", "", "5"},
		{"(let loop ((c (read-u8))) (if (eof-object? c) 'end (begin (write-u8 c) (loop (read-u8)))))", "hello", "end"},
		{"(define a (read-u8)) (define (f) (set! a (+ a 1)) (set! f a) a) (write-u8 (f)) (define b (f)) b", "xy", ""},
		{"(define v (make-vector 3 1)) (define a (vector-ref v 0)) (define b a) (define c b) (define d (+ a c)) (define e (list a b c d)) (set! b 5) (list a b c d e v)", "", "(1 5 1 2 (1 1 1 2) #(1 1 1))"},
		{"(define (even n) (if (= n 0) #t (odd (- n 1)))) (define (odd n) (if (= n 0) #f (even (- n 1)))) (define x (even 10)) (map (lambda (n) (if (odd n) x n)) '(1 2 3))", "", "(#t 2 #t)"},
	} {
		l, _, _ := read.Read(x[0])
		e, _, wrong := expand.Program(l, api.MaxFuel)
		if wrong != api.OK {
			t.Fatal(x, wrong)
		}
		wantFixed(t, e, x[1])
		if o := model.Run(e, x[1], enough); x[2] != "" && textOfShown(o) != x[2] {
			t.Error(x, o)
		}
	}
}
