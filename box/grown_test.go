package box

import (
	"math/rand"
	"scrimshaw/api"
	"scrimshaw/core"
	"scrimshaw/expand"
	"scrimshaw/fix"
	"scrimshaw/model"
	"scrimshaw/read"
	"strconv"
	"testing"
)

// What is promised of all expressions, held against the model on those that are grown, and on programs.

// grower grows expressions that mostly tell numbers. It has few names, so that they hide others.
type grower struct {
	*rand.Rand
	wild  int // one in so many that are set is any name
	scope []variable
}

// variable is a number's, or that of a function of so many parameters; one that is fixed is bound by an ExpFix, or free.
type variable struct {
	name     string
	function bool
	wants    int
	fixed    bool
}

func (g *grower) one(in int) bool { return g.Intn(in) == 0 }

// grown is an expression with names for continuations that are gone back to, and for how often they still may be (in a pair, which is no variable's to forget).
func (g *grower) grown() api.Expr {
	g.scope = []variable{{"back", true, 1, false}, {"back", true, 1, false}, {"free", false, 0, true}}
	e := g.expr(3 + g.Intn(5))
	return api.Expr{Kind: api.ExpLet, Names: []string{"left", "back"}, Kids: []api.Expr{prim("cons", number(g.Intn(6)), number(0)), of("(lambda (x) x)"), e}}
}

func (g *grower) expr(depth int) api.Expr {
	if depth <= 0 || g.one(6) {
		return g.leaf()
	}
	next := func() api.Expr { return g.expr(depth - 1) }
	switch g.Intn(14) {
	case 0:
		return prim([]string{"+", "-", "eq?", "cons", "quotient"}[g.Intn(5)], next(), next())
	case 1:
		return kind(api.ExpIf, prim("<", next(), next()), next(), next())
	case 2, 3:
		return kind(api.ExpSeq, g.effect(depth-1), next())
	case 4, 5:
		return g.call(depth - 1)
	case 6:
		return prim("%callcc", g.function([]variable{{"k", true, 1, false}}, depth-1))
	case 7, 8:
		return prim("%callcc", api.Expr{Kind: api.ExpLam, Names: []string{"k"}, Kids: []api.Expr{kind(api.ExpSeq, of("(set! back k)"), next())}})
	case 9:
		again := kind(api.ExpSeq, of("(set-car! left (- (car left) 1))"), kind(api.ExpCall, ref("back"), next()))
		return kind(api.ExpIf, of("(< 0 (car left))"), again, next())
	}
	return g.binding(depth)
}

func (g *grower) leaf() api.Expr {
	for range 3 {
		if v := g.scope[g.Intn(len(g.scope))]; !v.function || g.one(20) {
			return ref(v.name)
		}
	}
	if g.one(4) {
		return prim([]string{"read-u8", "read-u8", "%winders", "error"}[g.Intn(4)])
	}
	return number(g.Intn(9))
}

func (g *grower) effect(depth int) api.Expr {
	if g.one(3) {
		return prim("write-u8", number(65+g.Intn(26)))
	}
	for range 3 {
		v := g.scope[g.Intn(len(g.scope))]
		if v.fixed && !g.one(g.wild) {
			continue
		}
		if v.function {
			return api.Expr{Kind: api.ExpSet, Name: v.name, Kids: []api.Expr{g.function(g.variables(v.wants), depth)}}
		}
		return api.Expr{Kind: api.ExpSet, Name: v.name, Kids: []api.Expr{g.expr(depth)}}
	}
	return g.expr(depth)
}

func (g *grower) call(depth int) api.Expr {
	v := g.scope[g.Intn(len(g.scope))]
	out := kind(api.ExpCall, ref(v.name))
	if !v.function {
		v.wants = g.Intn(7)
		out = kind(api.ExpCall, g.function(g.variables(v.wants), depth))
	}
	for range v.wants {
		out.Kids = append(out.Kids, g.expr(depth-v.wants/2))
	}
	return out
}

// variables are so many new ones.
func (g *grower) variables(n int) []variable {
	var l []variable
	for _, i := range g.Perm(n + 2)[:n] {
		l = append(l, variable{name: "v" + strconv.Itoa(i)})
	}
	return l
}

func (g *grower) function(l []variable, depth int) api.Expr {
	out := api.Expr{Kind: api.ExpLam}
	for _, v := range l {
		out.Names = append(out.Names, v.name)
	}
	was := g.scope
	g.scope = append(was[:len(was):len(was)], l...)
	out.Kids = []api.Expr{g.expr(depth)}
	g.scope = was
	return out
}

func (g *grower) binding(depth int) api.Expr {
	out := api.Expr{Kind: []int{api.ExpLet, api.ExpLet, api.ExpLet, api.ExpFix}[g.Intn(4)]}
	if g.one(60 * g.wild) {
		out.Kind = api.ExpRec
	}
	l := g.variables(1 + g.Intn(4))
	was := g.scope
	inner := append(was[:len(was):len(was)], l...)
	for i := range l {
		if out.Kind == api.ExpFix || g.one(4) {
			l[i].function, l[i].wants, l[i].fixed = true, g.Intn(3), out.Kind == api.ExpFix
			inner[len(was)+i] = l[i]
		}
	}
	for _, v := range l {
		out.Names = append(out.Names, v.name)
		if out.Kind != api.ExpLet {
			g.scope = inner
		}
		switch {
		case v.function:
			out.Kids = append(out.Kids, g.function(g.variables(v.wants), depth-2))
		case g.one(3):
			out.Kids = append(out.Kids, g.leaf())
		default:
			out.Kids = append(out.Kids, g.expr(depth-1))
		}
	}
	g.scope = inner
	out.Kids = append(out.Kids, g.expr(depth-1))
	g.scope = was
	return out
}

func TestGrown(t *testing.T) {
	for seed := range 8 {
		t.Run(strconv.Itoa(seed), func(t *testing.T) {
			t.Parallel()
			g := &grower{Rand: rand.New(rand.NewSource(int64(seed))), wild: 30}
			came := map[api.Errno]int{}
			refused, late := 0, 0
			for range 400 {
				e := g.grown()
				if core.Check(e) != api.OK {
					continue
				}
				if has(e, api.ExpRec) || setsOther(e, nil) {
					refused++
					wantForm(t, e)
					continue
				}
				if out, wrong := Box(e); wrong == api.ErrPassMany {
					wantBig(t, e)
					continue
				} else if rebinds(out) {
					late++
				}
				wantBoxed(t, e, "12a")
				wantBoxed(t, e, "")
				came[model.Run(closed(e, core.Free(e)), "12a", enough).Err]++
			}
			if came[api.OK] < 200 || came[api.ErrRunType] < 25 || came[api.ErrRunUser] < 10 || refused < 10 || late < 10 {
				t.Error(came, refused, late)
			}
		})
	}
}

// rebinds tells whether there is an ExpLet with a name that is bound to a box of itself, right within one that binds it.
func rebinds(e api.Expr) bool {
	if e.Kind == api.ExpLet {
		if body := e.Kids[len(e.Kids)-1]; body.Kind == api.ExpLet && len(body.Names) > 0 && core.Equal(body.Kids[0], prim("%box", ref(body.Names[0]))) {
			return true
		}
	}
	for _, kid := range e.Kids {
		if rebinds(kid) {
			return true
		}
	}
	return false
}

// wantBig is that an expression isn't small.
func wantBig(t *testing.T, e api.Expr) {
	t.Helper()
	if expressions, within := size(e); expressions <= 400 && within <= 25 {
		t.Fatalf("ErrPassMany of %d, %d within one another: %s", expressions, within, textOf(e))
	}
}

func TestPrograms(t *testing.T) {
	for _, x := range [][3]string{
		{"(define (fact n) (if (< n 2) 1 (* n (fact (- n 1))))) (fact 12)", "", "479001600"},
		{"(define k #f) (define n 0) (define l '()) (set! l (cons (call/cc (lambda (c) (set! k c) 0)) l)) (set! n (+ n 1)) (if (< n 4) (k n)) l", "", "(3 2 1 0)"},
		{"(define-syntax swap! (syntax-rules () ((_ a b) (let ((tmp a)) (set! a b) (set! b tmp))))) (let ((tmp 1) (y 2)) (swap! tmp y) (list tmp y))", "", "(2 1)"},
		{"(dynamic-wind (lambda () (write-u8 40)) (lambda () (call/cc (lambda (k) (k 5)))) (lambda () (write-u8 41)))", "", "5"},
		{"(let loop ((c (read-u8))) (if (eof-object? c) 'end (begin (write-u8 c) (loop (read-u8)))))", "hello", "end"},
		{"(define a (read-u8)) (define (f) (set! a (+ a 1)) (set! f a) a) (write-u8 (f)) (define b (f)) b", "xy", ""},
		{"(define (counter n) (lambda () (set! n (+ n 1)) n)) (define a (counter 1)) (define b (counter 5)) (a) (a) (b) (list (a) (b))", "", "(4 7)"},
		{"(define k #f) (define l '()) (define left 2) (let ((x 1) (y (call/cc (lambda (c) (set! k c) 5))) (z 9)) (set! x (+ x y)) (set! z (+ z x)) (set! l (cons z l))) (if (> left 0) (begin (set! left (- left 1)) (k (* 10 left)))) l", "", "(10 20 15)"},
		{"(define k #f) (define l '()) (define left 2) (define (f x y) (set! x (+ x y)) (set! l (cons x l))) (f 1 (call/cc (lambda (c) (set! k c) 5))) (if (> left 0) (begin (set! left (- left 1)) (k (* 10 left)))) l", "", "(1 11 6)"},
	} {
		l, _, _ := read.Read(x[0])
		e, _, wrong := expand.Program(l, api.MaxFuel)
		if wrong != api.OK {
			t.Fatal(x, wrong)
		}
		if e, wrong = fix.Fix(e); wrong != api.OK {
			t.Fatal(x, wrong)
		}
		wantBoxed(t, e, x[1])
		if o := model.Run(e, x[1], enough); x[2] != "" && textOfShown(o) != x[2] {
			t.Error(x, o)
		}
	}
}
