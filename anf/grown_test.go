package anf

import (
	"math/rand"
	"scrimshaw/api"
	"scrimshaw/box"
	"scrimshaw/core"
	"scrimshaw/expand"
	"scrimshaw/fix"
	"scrimshaw/fold"
	"scrimshaw/model"
	"scrimshaw/read"
	"slices"
	"strconv"
	"testing"
)

// What is promised of all expressions, held against the model, and against the second way, on those that are grown, and on programs.

// grower grows expressions that mostly tell numbers. It has few names, so that they hide others, and such as could be given.
type grower struct {
	*rand.Rand
	back  bool // whether continuations are gone back to
	scope []variable
}

// variable is a number's, or that of a function of so many parameters.
type variable struct {
	name     string
	function bool
	wants    int
}

func (g *grower) one(in int) bool { return g.Intn(in) == 0 }

func (g *grower) pick(l ...string) string { return l[g.Intn(len(l))] }

// grown is an expression with a pair for anyone to change; and where continuations are gone back to, with places for some, and for how often they still may be.
func (g *grower) grown() api.Expr {
	g.scope = []variable{{"free", false, 0}, {"n.5", false, 0}}
	if !g.back {
		return api.Expr{Kind: api.ExpLet, Names: []string{"pair"}, Kids: []api.Expr{prim("cons", number(1), number(2)), g.expr(3 + g.Intn(5))}}
	}
	names := []string{"pair", "backs", "left"}
	return api.Expr{Kind: api.ExpLet, Names: names, Kids: []api.Expr{of("(cons 1 2)"), of("(make-vector 2 (lambda (x) x))"), prim("cons", number(g.Intn(8)), number(0)), g.expr(3 + g.Intn(5))}}
}

func (g *grower) expr(depth int) api.Expr {
	if depth <= 0 || g.one(7) {
		return g.leaf()
	}
	next := func() api.Expr { return g.expr(depth - 1) }
	switch g.Intn(16) {
	case 0, 1, 2:
		return prim(g.pick("+", "-", "*", "quotient", "+", "-"), next(), next())
	case 3, 4:
		return kind(api.ExpIf, g.test(depth-1), next(), next())
	case 5, 6:
		return kind(api.ExpSeq, g.effect(depth-1), next())
	case 7, 8, 9:
		return g.call(depth - 1)
	case 10:
		return prim("%callcc", g.function([]variable{{"k", true, 1}}, depth-1))
	case 11:
		return g.backAgain(depth)
	case 12:
		return prim(g.pick("car", "cdr"), prim("cons", next(), next()))
	case 13:
		return prim("vector-ref", prim("make-vector", g.small(depth-1), next()), number(g.Intn(2)))
	}
	return g.binding(depth)
}

// small is a number that is none of many, mostly.
func (g *grower) small(depth int) api.Expr {
	if g.one(3) {
		return kind(api.ExpSeq, g.effect(depth), number(1+g.Intn(9)))
	}
	return number(2 + g.Intn(3))
}

// backAgain keeps a continuation, or goes back to one.
func (g *grower) backAgain(depth int) api.Expr {
	place := number(g.Intn(2))
	if !g.back {
		return g.call(depth - 1)
	}
	if g.one(2) {
		keep := kind(api.ExpSeq, prim("vector-set!", ref("backs"), place, ref("k")), g.expr(depth-1))
		return prim("%callcc", api.Expr{Kind: api.ExpLam, Names: []string{"k"}, Kids: []api.Expr{keep}})
	}
	again := kind(api.ExpSeq, of("(set-car! left (- (car left) 1))"), kind(api.ExpCall, prim("vector-ref", ref("backs"), place), g.expr(depth-1)))
	return kind(api.ExpIf, of("(< 0 (car left))"), again, g.expr(depth-1))
}

// test is a truth, mostly.
func (g *grower) test(depth int) api.Expr {
	switch g.Intn(6) {
	case 0:
		return of(g.pick("#t", "#f", "'()", "0", "'a", "#\\a"))
	case 1:
		return g.expr(depth)
	case 2:
		name := g.pick("null?", "symbol?", "char?", "integer?", "boolean?", "pair?", "vector?", "string?", "procedure?", "eof-object?")
		return prim(name, g.expr(depth))
	case 3:
		return kind(api.ExpIf, g.test(depth-1), g.test(depth-1), g.test(depth-1))
	}
	return prim(g.pick("<", "=", "eq?"), g.expr(depth), g.expr(depth))
}

func (g *grower) leaf() api.Expr {
	if v := g.scope[g.Intn(len(g.scope))]; !v.function && !g.one(3) {
		return ref(v.name)
	}
	switch g.Intn(8) {
	case 0, 1:
		return prim(g.pick("read-u8", "read-u8", "read-u8", "read-u8", "%winders", "error", "void"))
	case 2:
		return prim(g.pick("car", "cdr"), ref("pair"))
	case 3, 4:
		return of(g.pick("1152921504606846975", "-1152921504606846975", "#t", "'n.0", "()", "#\\b"))
	}
	return number(g.Intn(9) - 1)
}

func (g *grower) effect(depth int) api.Expr {
	switch g.Intn(4) {
	case 0, 1:
		return prim("write-u8", kind(api.ExpSeq, g.leaf(), number(65+g.Intn(26))))
	case 2:
		return prim(g.pick("set-car!", "set-cdr!"), ref("pair"), g.expr(depth))
	}
	return g.expr(depth)
}

func (g *grower) call(depth int) api.Expr {
	v := g.scope[g.Intn(len(g.scope))]
	out := kind(api.ExpCall, ref(v.name))
	if !v.function {
		v.wants = g.Intn(7)
		out = kind(api.ExpCall, g.function(g.variables(v.wants), depth))
	}
	if g.one(40) {
		v.wants = g.Intn(7)
	}
	for range v.wants {
		out.Kids = append(out.Kids, g.expr(depth-v.wants/2))
	}
	return out
}

// variables are so many new ones.
func (g *grower) variables(n int) []variable {
	names := []string{"a", "b", "n.0", "n.1", "n.2", "n.3", "n.7"}
	var l []variable
	for _, i := range g.Perm(len(names))[:n] {
		l = append(l, variable{name: names[i]})
	}
	return l
}

func (g *grower) function(l []variable, depth int) api.Expr {
	out := api.Expr{Kind: api.ExpLam}
	for _, v := range l {
		out.Names = append(out.Names, v.name)
	}
	was := g.scope
	g.scope = g.within(l)
	out.Kids = []api.Expr{g.expr(depth)}
	g.scope = was
	return out
}

// within is what stands in a scope in which some more are bound; those that they hide are gone.
func (g *grower) within(l []variable) []variable {
	var out []variable
	for _, v := range g.scope {
		isHidden := false
		for _, inner := range l {
			isHidden = isHidden || inner.name == v.name
		}
		if !isHidden {
			out = append(out, v)
		}
	}
	return append(out, l...)
}

func (g *grower) binding(depth int) api.Expr {
	out := api.Expr{Kind: []int{api.ExpLet, api.ExpLet, api.ExpFix}[g.Intn(3)]}
	if g.one(200) {
		out.Kind = api.ExpRec
	}
	l := g.variables(g.Intn(4))
	if out.Kind == api.ExpFix && len(l) == 0 {
		l = g.variables(1)
	}
	for i := range l {
		if out.Kind == api.ExpFix || g.one(6) {
			l[i].function, l[i].wants = true, g.Intn(3)
		}
	}
	was := g.scope
	inner := g.within(l)
	for _, v := range l {
		out.Names = append(out.Names, v.name)
		if out.Kind != api.ExpLet {
			g.scope = inner
		}
		if v.function {
			out.Kids = append(out.Kids, g.function(g.variables(v.wants), depth-2))
		} else {
			out.Kids = append(out.Kids, g.expr(depth-1))
		}
	}
	g.scope = inner
	out.Kids = append(out.Kids, g.expr(depth-1))
	g.scope = was
	if g.one(300) {
		return kind(api.ExpSeq, api.Expr{Kind: api.ExpSet, Name: "n.0", Kids: []api.Expr{number(1)}}, out)
	}
	return out
}

func TestGrown(t *testing.T) { grownOnes(t, false) }

func TestGrownBack(t *testing.T) { grownOnes(t, true) }

func grownOnes(t *testing.T, back bool) {
	want := wantNamed
	if back {
		want = wantNamedBack
	}
	for seed := range 8 {
		t.Run(strconv.Itoa(seed), func(t *testing.T) {
			t.Parallel()
			g := &grower{Rand: rand.New(rand.NewSource(int64(seed))), back: back}
			came := map[api.Errno]int{}
			refused, wrote, changed, went := 0, 0, 0, 0
			for range 400 {
				e := g.grown()
				if n, _ := size(e); core.Check(e) != api.OK || n < 12 || n > 600 {
					continue
				}
				if has(e, api.ExpRec) || has(e, api.ExpSet) {
					refused++
					wantForm(t, e)
					continue
				}
				out := want(t, e, "12a")
				want(t, e, "")
				if other := joined(otherName(e)); !core.Equal(core.Rename(other), core.Rename(out)) {
					t.Fatalf("Name(%s): %s; the other way %s", textOf(e), textOf(out), textOf(other))
				}
				o := model.Run(closed(e, core.Free(e), number(3)), "12a", enough)
				came[o.Err]++
				if o.Output != "" {
					wrote++
				}
				if backwards := model.Run(closed(lastFirst(e), core.Free(e), number(3)), "12a", enough); told(backwards) != told(o) {
					changed++
				}
				if back && told(model.Run(closed(never(e), core.Free(e), number(3)), "12a", enough)) != told(o) {
					went++
				}
			}
			if came[api.OK] < 100 || came[api.ErrRunType] < 30 || came[api.ErrRunUser] < 10 || came[api.ErrRunCount] < 2 || refused < 2 || wrote < 80 || changed < 40 || back && went < 15 {
				t.Error(came, refused, wrote, changed, went)
			}
		})
	}
}

// never is a grown expression by which no continuation may be gone back to.
func never(e api.Expr) api.Expr {
	out := e
	out.Kids = slices.Clone(e.Kids)
	out.Kids[2] = of("(cons 0 0)")
	return out
}

// lastFirst is a wrong way, by which the last kid is bound ahead of the first one: of the grown expressions enough must tell it from a right one.
func lastFirst(e api.Expr) api.Expr {
	out := e
	out.Kids = nil
	for _, kid := range e.Kids {
		out.Kids = append(out.Kids, lastFirst(kid))
	}
	whole := &out
	for i, place := range unsimple(out) {
		name := "last.." + strconv.Itoa(i)
		let := api.Expr{Kind: api.ExpLet, Names: []string{name}, Kids: []api.Expr{out.Kids[place], {}}}
		out.Kids[place] = ref(name)
		let.Kids[1] = *whole
		whole = &let
	}
	return *whole
}

func TestPrograms(t *testing.T) {
	for _, x := range []struct {
		source, input, shown string
		back                 bool
	}{
		{"(+ 1 2)", "", "3", false},
		{"(define (fact n) (if (< n 2) 1 (* n (fact (- n 1))))) (fact 12)", "", "479001600", false},
		{"(let loop ((i 0)) (if (= i 100) 'done (loop (+ i 1))))", "", "done", false},
		{"(define k #f) (define n 0) (define l '()) (set! l (cons (call/cc (lambda (c) (set! k c) 0)) l)) (set! n (+ n 1)) (if (< n 4) (k n)) l", "", "(3 2 1 0)", true},
		{"(define-syntax swap! (syntax-rules () ((_ a b) (let ((tmp a)) (set! a b) (set! b tmp))))) (let ((tmp 1) (y 2)) (swap! tmp y) (list tmp y))", "", "(2 1)", false},
		{"(dynamic-wind (lambda () (write-u8 40)) (lambda () (call/cc (lambda (k) (k 5)))) (lambda () (write-u8 41)))", "", "5", false},
		{"(let loop ((c (read-u8))) (if (eof-object? c) 'end (begin (write-u8 c) (loop (read-u8)))))", "hello", "end", false},
		{"(define (counter n) (lambda () (set! n (+ n 1)) n)) (define a (counter 1)) (define b (counter 5)) (a) (a) (b) (list (a) (b))", "", "(4 7)", false},
		{"(let ((x 5) (y 7)) (cond ((< y x) 'less) ((= x y) 'same) (else (let* ((z (* x y)) (w (- z 1))) (list z w)))))", "", "(35 34)", false},
		{"(define (down n) (if (= n 0) '() (cons n (down (- n 1))))) (list (length (down 9)) (apply + (map (lambda (x) (* x x)) (down 2))) (equal? (down 3) '(3 2 1)))", "", "(9 5 #t)", false},
		{"(define v (vector-ref '#(1 \"two\" (3 4)) 2)) (do ((i 0 (+ i 1)) (l '() (cons (car v) l))) ((= i 3) l))", "", "(3 3 3)", false},
		{"(let ((k (call/cc (lambda (k) k)))) (if (procedure? k) (dynamic-wind (lambda () (write-u8 40)) (lambda () (k 7)) (lambda () (write-u8 41))) (+ k k)))", "", "14", true},
	} {
		l, _, _ := read.Read(x.source)
		e, _, wrong := expand.Program(l, api.MaxFuel)
		if wrong != api.OK {
			t.Fatal(x, wrong)
		}
		if e, wrong = fix.Fix(e); wrong != api.OK {
			t.Fatal(x, wrong)
		}
		if e, wrong = box.Box(e); wrong != api.OK {
			t.Fatal(x, wrong)
		}
		folded, wrong := fold.Fold(e)
		if wrong != api.OK {
			t.Fatal(x, wrong)
		}
		want := wantNamed
		if x.back {
			want = wantNamedBack
		}
		for _, e := range []api.Expr{e, folded} {
			if o := model.Run(want(t, e, x.input), x.input, enough); textOfShown(o) != x.shown {
				t.Error(x, o)
			}
		}
	}
}
