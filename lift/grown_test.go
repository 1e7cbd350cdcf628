package lift

import (
	"math/rand"
	"scrimshaw/anf"
	"scrimshaw/api"
	"scrimshaw/box"
	"scrimshaw/core"
	"scrimshaw/expand"
	"scrimshaw/fix"
	"scrimshaw/fold"
	"scrimshaw/read"
	"slices"
	"strconv"
	"testing"
)

// All calls, held against the second way: on expressions that are grown, on what becomes of them, and on that bent.

// grower grows expressions that have few names, so that they hide others.
type grower struct {
	*rand.Rand
	scope []string
}

func (g *grower) one(in int) bool { return g.Intn(in) == 0 }

func (g *grower) pick(l ...string) string { return l[g.Intn(len(l))] }

func (g *grower) expr(depth int) api.Expr {
	if depth <= 0 || g.one(8) {
		return g.leaf()
	}
	switch g.Intn(12) {
	case 0, 1:
		return kind(api.ExpCall, g.row(1+g.Intn(4), depth-1)...)
	case 2:
		name := g.pick("read-u8", "car", "%callcc", "cons", "+", "vector-set!", "%unbox")
		return api.Expr{Kind: api.ExpPrim, Name: name, Kids: g.row(core.Arity(name), depth-1)}
	case 3:
		return kind(api.ExpIf, g.row(3, depth-1)...)
	case 4:
		return kind(api.ExpSeq, g.row(2+g.Intn(2), depth-1)...)
	case 5, 6:
		return g.binding(api.ExpLet, g.Intn(4), depth-1)
	case 7:
		return g.binding(api.ExpFix, 1+g.Intn(3), depth-1)
	}
	return g.function(depth - 1)
}

func (g *grower) row(n, depth int) []api.Expr {
	var out []api.Expr
	for range n {
		out = append(out, g.expr(depth))
	}
	return out
}

func (g *grower) leaf() api.Expr {
	if len(g.scope) > 0 && !g.one(4) {
		return ref(g.scope[g.Intn(len(g.scope))])
	}
	if g.one(300) {
		return ref("free")
	}
	return of(g.pick("1", "#t", "()", "'a", "#\\a"))
}

func (g *grower) names(n int) []string {
	names := []string{"a", "b", "B", "car", "a.0", "0a", "+.", "x"}
	var out []string
	for _, i := range g.Perm(len(names))[:n] {
		out = append(out, names[i])
	}
	return out
}

// within grows what stands where some more names are bound.
func (g *grower) within(names []string, grow func() api.Expr) api.Expr {
	was := g.scope
	g.scope = slices.Concat(was, names)
	out := grow()
	g.scope = was
	return out
}

func (g *grower) function(depth int) api.Expr {
	names := g.names(g.Intn(3))
	return api.Expr{Kind: api.ExpLam, Names: names, Kids: []api.Expr{g.within(names, func() api.Expr { return g.expr(depth) })}}
}

func (g *grower) binding(kind, n, depth int) api.Expr {
	out := api.Expr{Kind: kind, Names: g.names(n)}
	for range n {
		if kind == api.ExpFix {
			out.Kids = append(out.Kids, g.within(out.Names, func() api.Expr { return g.function(depth) }))
		} else {
			out.Kids = append(out.Kids, g.expr(depth))
		}
	}
	out.Kids = append(out.Kids, g.within(out.Names, func() api.Expr { return g.expr(depth) }))
	switch {
	case g.one(300):
		out.Kind = api.ExpRec
	case n > 0 && g.one(300):
		out.Kids[n] = api.Expr{Kind: api.ExpSet, Name: out.Names[0], Kids: []api.Expr{out.Kids[n]}}
	}
	return out
}

// bent is a program of which one thing is another one.
func (g *grower) bent(l api.Lifted) api.Lifted {
	out := clone(l)
	if len(out.Funs) > 0 && g.one(2) {
		return g.bentFuns(out)
	}
	all := g.places(&out)
	e := all[g.Intn(len(all))]
	if clos := slices.DeleteFunc(slices.Clone(all), func(e *api.Expr) bool { return e.Kind != api.ExpClo }); len(clos) > 0 && g.one(2) {
		e = clos[g.Intn(len(clos))]
	}
	switch g.Intn(10) {
	case 0:
		e.Kind = g.Intn(api.ExpClo + 1)
	case 1:
		e.Name = g.pick("", "a", "car", "x", "5")
	case 2, 3:
		e.Names = g.bentNames(e.Names)
	case 4:
		e.Const.Int += g.Intn(3) - 1
	case 5:
		e.Const = of(g.pick("1", "0", "#f", "'a", "()")).Const
	case 6:
		e.Kids = append(e.Kids, of(g.pick("1", "a", "(begin 1 x)", "(lambda () 1)", "(letrec () 1)")))
	case 7:
		if len(e.Kids) > 0 {
			e.Kids = slices.Delete(e.Kids, 0, 1)
		}
	case 8:
		*e = cloneExpr(*all[g.Intn(len(all))])
	default:
		other := all[g.Intn(len(all))]
		e.Const.Int, other.Const.Int = other.Const.Int, e.Const.Int
	}
	return out
}

// places are those of all expressions of a program.
func (g *grower) places(l *api.Lifted) []*api.Expr {
	out := []*api.Expr{&l.Main}
	for i := range l.Funs {
		out = append(out, &l.Funs[i].Body)
	}
	for i := 0; i < len(out); i++ {
		for j := range out[i].Kids {
			out = append(out, &out[i].Kids[j])
		}
	}
	return out
}

func (g *grower) bentNames(l []string) []string {
	switch at := g.Intn(len(l) + 1); g.Intn(3) {
	case 0:
		return slices.Insert(slices.Clone(l), at, g.pick("a", "b", "x", "free", "7"))
	case 1:
		return slices.Delete(slices.Clone(l), at, min(at+1, len(l)))
	}
	out := slices.Clone(l)
	slices.Reverse(out)
	return out
}

func (g *grower) bentFuns(l api.Lifted) api.Lifted {
	at := g.Intn(len(l.Funs))
	other := g.Intn(len(l.Funs))
	f := &l.Funs[at]
	switch g.Intn(8) {
	case 0:
		f.Params = g.bentNames(f.Params)
	case 1:
		f.Frees = g.bentNames(f.Frees)
	case 2:
		l.Funs[at], l.Funs[other] = l.Funs[other], l.Funs[at]
	case 3:
		l.Funs = slices.Delete(l.Funs, at, at+1)
	case 4:
		l.Funs = append(l.Funs, clone(api.Lifted{Funs: l.Funs[at : at+1]}).Funs...)
	case 5:
		f.Body, l.Funs[other].Body = l.Funs[other].Body, f.Body
	default:
		// Names that its closure holds as well.
		was := f.Frees
		f.Frees = g.bentNames(f.Frees)
		for _, e := range g.places(&l) {
			if e.Kind == api.ExpClo && slices.Equal(e.Names, was) && e.Const.Int == at {
				e.Names = slices.Clone(f.Frees)
			}
		}
	}
	return l
}

// shuffled is the same program with its Funs in another order that may be.
func (g *grower) shuffled(l api.Lifted) api.Lifted {
	out := clone(l)
	for range 5 * len(l.Funs) {
		at := g.Intn(len(out.Funs))
		if at+1 < len(out.Funs) && !slices.ContainsFunc(parts(api.Lifted{Main: out.Funs[at].Body}), func(p part) bool { return p.Kind == api.ExpClo && p.Const.Int == at+1 }) {
			out.Funs[at], out.Funs[at+1] = out.Funs[at+1], out.Funs[at]
			for _, e := range g.places(&out) {
				if e.Kind == api.ExpClo && e.Const.Int == at {
					e.Const.Int++
				} else if e.Kind == api.ExpClo && e.Const.Int == at+1 {
					e.Const.Int--
				}
			}
		}
	}
	return out
}

func TestGrown(t *testing.T) {
	for seed := range 8 {
		t.Run(strconv.Itoa(seed), func(t *testing.T) {
			t.Parallel()
			g := &grower{Rand: rand.New(rand.NewSource(int64(seed)))}
			lifted, refused, held, moved := 0, 0, 0, 0
			came := map[api.Errno]int{}
			for range 600 {
				e := g.expr(2 + g.Intn(5))
				if core.Check(e) != api.OK {
					continue
				}
				if len(core.Free(e)) > 0 || has(e, api.ExpRec) || has(e, api.ExpSet) {
					refused++
					wantNotLifted(t, e)
					continue
				}
				l := wantLifted(t, e)
				lifted++
				if slices.ContainsFunc(l.Funs, func(f api.Fun) bool { return len(f.Frees) > 1 }) {
					held++
				}
				other := g.shuffled(l)
				if !isSame(other, l) {
					moved++
				}
				if back := wantRight(t, other); !core.Equal(back, e) {
					t.Fatalf("%s: %s", textOfProgram(other), textOf(back))
				}
				if size, _ := size(e); size < 300 {
					g.wantBent(t, l, came)
				}
			}
			if lifted < 300 || refused < 10 || held < 80 || moved < 80 || came[api.OK] < 300 || came[api.ErrPassForm] < 1500 {
				t.Error(lifted, refused, held, moved, came)
			}
		})
	}
}

// wantBent is that what is bent, once and oftener, is lifted just if the second way says so.
func (g *grower) wantBent(t *testing.T, l api.Lifted, came map[api.Errno]int) {
	t.Helper()
	for range 8 {
		bent := g.bent(l)
		if g.one(4) {
			bent = g.bent(bent)
		}
		want := otherCheck(bent)
		came[want]++
		if got := Check(bent); got != want {
			t.Fatalf("Check(%s): %v; the other way %v", textOfProgram(bent), got, want)
		}
		if want == api.OK {
			wantRight(t, bent)
		} else {
			wantWrong(t, bent, want)
		}
	}
}

// Programs, as they come of the passes ahead.
func TestPrograms(t *testing.T) {
	functions := 0
	for _, source := range []string{
		"(+ 1 2)",
		"(define (fact n) (if (< n 2) 1 (* n (fact (- n 1))))) (fact 12)",
		"(let loop ((i 0)) (if (= i 100) 'done (loop (+ i 1))))",
		"(define k #f) (define n 0) (define l '()) (set! l (cons (call/cc (lambda (c) (set! k c) 0)) l)) (set! n (+ n 1)) (if (< n 4) (k n)) l",
		"(define-syntax swap! (syntax-rules () ((_ a b) (let ((tmp a)) (set! a b) (set! b tmp))))) (let ((tmp 1) (y 2)) (swap! tmp y) (list tmp y))",
		"(dynamic-wind (lambda () (write-u8 40)) (lambda () (call/cc (lambda (k) (k 5)))) (lambda () (write-u8 41)))",
		"(let loop ((c (read-u8))) (if (eof-object? c) 'end (begin (write-u8 c) (loop (read-u8)))))",
		"(define (counter n) (lambda () (set! n (+ n 1)) n)) (define a (counter 1)) (define b (counter 5)) (a) (a) (b) (list (a) (b))",
		"(define (odd n) (if (= n 0) #f (even (- n 1)))) (define (even n) (if (= n 0) #t (odd (- n 1)))) (map (lambda (n) (lambda () (odd n))) '(1 2 3))",
		"(define (down n) (if (= n 0) '() (cons n (down (- n 1))))) (list (length (down 9)) (apply + (map (lambda (x) (* x x)) (down 2))) (equal? (down 3) '(3 2 1)))",
		"(define v (vector-ref '#(1 \"two\" (3 4)) 2)) (do ((i 0 (+ i 1)) (l '() (cons (car v) l))) ((= i 3) l))",
		"(let ((x 5) (y 7)) (cond ((< y x) 'less) ((= x y) 'same) (else (let* ((z (* x y)) (w (- z 1))) (list z w)))))",
	} {
		l, _, _ := read.Read(source)
		e, _, wrong := expand.Program(l, api.MaxFuel)
		if wrong != api.OK {
			t.Fatal(source, wrong)
		}
		for _, pass := range []func(api.Expr) (api.Expr, api.Errno){fix.Fix, box.Box, fold.Fold, anf.Name} {
			if e, wrong = pass(e); wrong != api.OK {
				t.Fatal(source, wrong)
			}
			// What comes of each pass by itself may have names that change.
			if has(e, api.ExpRec) || has(e, api.ExpSet) {
				wantNotLifted(t, e)
			} else {
				functions += len(wantLifted(t, e).Funs)
			}
		}
	}
	if functions < 100 {
		t.Error(functions)
	}
}
