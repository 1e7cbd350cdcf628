package fold

import (
	"math/rand"
	"scrimshaw/api"
	"scrimshaw/box"
	"scrimshaw/core"
	"scrimshaw/expand"
	"scrimshaw/fix"
	"scrimshaw/model"
	"scrimshaw/read"
	"strconv"
	"strings"
	"testing"
)

// What is promised of all expressions, held against the model, and against the second way, on those that are grown, and on programs.

// grower grows expressions that mostly tell numbers, and of which much is known. It has few names, so that they hide others.
type grower struct {
	*rand.Rand
	scope []variable
}

// variable is a number's, or that of a function of so many parameters; one that is fixed is not set.
type variable struct {
	name     string
	function bool
	wants    int
	fixed    bool
}

func (g *grower) one(in int) bool { return g.Intn(in) == 0 }

func (g *grower) pick(l ...string) string { return l[g.Intn(len(l))] }

// grown is an expression with a name for continuations that are gone back to, and for how often they still may be.
func (g *grower) grown() api.Expr {
	g.scope = []variable{{"back", true, 1, true}, {"free", false, 0, true}}
	e := g.expr(3 + g.Intn(5))
	return api.Expr{Kind: api.ExpLet, Names: []string{"left", "back"}, Kids: []api.Expr{prim("cons", number(g.Intn(6)), number(0)), of("(lambda (x) x)"), e}}
}

func (g *grower) expr(depth int) api.Expr {
	if depth <= 0 || g.one(6) {
		return g.leaf()
	}
	next := func() api.Expr { return g.expr(depth - 1) }
	switch g.Intn(15) {
	case 0, 1:
		return prim(g.pick("+", "-", "*", "quotient", "remainder", "+", "-"), next(), next())
	case 2, 3:
		return kind(api.ExpIf, g.test(depth-1), next(), next())
	case 4, 5, 6:
		return g.seq(depth)
	case 7:
		return g.call(depth - 1)
	case 8:
		return prim("%callcc", g.function([]variable{{"k", true, 1, true}}, depth-1))
	case 9:
		if g.one(2) {
			return prim("%callcc", api.Expr{Kind: api.ExpLam, Names: []string{"k"}, Kids: []api.Expr{kind(api.ExpSeq, of("(set! back k)"), next())}})
		}
		again := kind(api.ExpSeq, of("(set-car! left (- (car left) 1))"), kind(api.ExpCall, ref("back"), next()))
		return kind(api.ExpIf, of("(< 0 (car left))"), again, next())
	case 10:
		return prim("char->integer", prim("integer->char", next()))
	}
	return g.binding(depth)
}

// test is a truth, mostly.
func (g *grower) test(depth int) api.Expr {
	switch g.Intn(6) {
	case 0:
		return of(g.pick("#t", "#f", "'()", "0", "'a", "#\\a"))
	case 1:
		return g.expr(depth)
	case 2:
		name := g.pick("null?", "symbol?", "char?", "integer?", "boolean?", "pair?", "vector?", "string?", "procedure?", "eof-object?")
		return prim(name, g.expr(depth))
	}
	return prim(g.pick("<", "=", "eq?"), g.expr(depth), g.expr(depth))
}

func (g *grower) leaf() api.Expr {
	for range 3 {
		if v := g.scope[g.Intn(len(g.scope))]; !v.function || g.one(20) {
			return ref(v.name)
		}
	}
	if g.one(4) {
		return prim(g.pick("read-u8", "read-u8", "%winders", "error", "void"))
	}
	if g.one(30) {
		return of(g.pick("1152921504606846975", "-1152921504606846975", "#t", "'b", "()", "#\\b"))
	}
	return number(g.Intn(9) - 1)
}

func (g *grower) seq(depth int) api.Expr {
	out := kind(api.ExpSeq)
	for range 1 + g.Intn(3) {
		out.Kids = append(out.Kids, g.effect(depth-1))
	}
	return kind(api.ExpSeq, append(out.Kids, g.expr(depth-1))...)
}

func (g *grower) effect(depth int) api.Expr {
	switch g.Intn(6) {
	case 0, 1:
		return prim("write-u8", number(65+g.Intn(26)))
	case 2:
		return g.leaf()
	case 3:
		return g.function(g.variables(g.Intn(3)), depth)
	case 4:
		return g.set(depth)
	}
	// Often it is known that this is not set.
	return kind(api.ExpIf, g.test(1), g.leaf(), g.set(depth-1))
}

func (g *grower) set(depth int) api.Expr {
	for range 5 {
		if v := g.scope[g.Intn(len(g.scope))]; !v.fixed && !v.function {
			return api.Expr{Kind: api.ExpSet, Name: v.name, Kids: []api.Expr{g.expr(depth)}}
		}
	}
	return g.expr(depth)
}

func (g *grower) call(depth int) api.Expr {
	v := g.scope[g.Intn(len(g.scope))]
	out := kind(api.ExpCall, ref(v.name))
	if !v.function {
		v.wants = g.Intn(4)
		out = kind(api.ExpCall, g.function(g.variables(v.wants), depth))
	}
	for range v.wants {
		out.Kids = append(out.Kids, g.expr(depth-v.wants/2))
	}
	return out
}

// variables are so many new ones.
func (g *grower) variables(n int) []variable {
	var l []variable
	for _, i := range g.Perm(n + 2)[:n] {
		l = append(l, variable{name: "v" + strconv.Itoa(i), fixed: g.one(3)})
	}
	return l
}

func (g *grower) function(l []variable, depth int) api.Expr {
	out := api.Expr{Kind: api.ExpLam}
	for _, v := range l {
		out.Names = append(out.Names, v.name)
	}
	was := g.scope
	g.scope = append(was[:len(was):len(was)], l...)
	out.Kids = []api.Expr{g.expr(depth)}
	g.scope = was
	return out
}

func (g *grower) binding(depth int) api.Expr {
	out := api.Expr{Kind: []int{api.ExpLet, api.ExpLet, api.ExpLet, api.ExpLet, api.ExpFix}[g.Intn(5)]}
	if g.one(300) {
		out.Kind = api.ExpRec
	}
	l := g.variables(g.Intn(5))
	if out.Kind == api.ExpFix && len(l) == 0 {
		l = g.variables(1)
	}
	was := g.scope
	inner := append(was[:len(was):len(was)], l...)
	for i := range l {
		if out.Kind == api.ExpFix || g.one(6) {
			l[i].function, l[i].wants, l[i].fixed = true, g.Intn(3), true
			inner[len(was)+i] = l[i]
		}
	}
	for _, v := range l {
		out.Names = append(out.Names, v.name)
		if out.Kind != api.ExpLet {
			g.scope = inner
		}
		switch {
		case v.function:
			out.Kids = append(out.Kids, g.function(g.variables(v.wants), depth-2))
		case g.one(2):
			out.Kids = append(out.Kids, number(g.Intn(9)))
		default:
			out.Kids = append(out.Kids, g.expr(depth-1))
		}
	}
	g.scope = inner
	out.Kids = append(out.Kids, g.expr(depth-1))
	g.scope = was
	return out
}

func TestGrown(t *testing.T) {
	for seed := range 8 {
		t.Run(strconv.Itoa(seed), func(t *testing.T) {
			t.Parallel()
			g := &grower{Rand: rand.New(rand.NewSource(int64(seed)))}
			came := map[api.Errno]int{}
			refused, wrote, late := 0, 0, 0
			for range 500 {
				e := g.grown()
				if core.Check(e) != api.OK || size(e) > 600 {
					continue
				}
				if has(e, api.ExpRec) {
					refused++
					wantForm(t, e)
					continue
				}
				out := wantFolded(t, e, "12a")
				wantFolded(t, e, "")
				if other := otherFold(g.Rand, e); !core.Equal(other, out) {
					t.Fatalf("Fold(%s): %s; the other way %s", textOf(e), textOf(out), textOf(other))
				}
				if unfolded(atOnce(g.Rand, e)) != "" {
					late++
				}
				o := model.Run(closed(e, core.Free(e), number(3)), "12a", enough)
				came[o.Err]++
				if o.Output != "" {
					wrote++
				}
			}
			if came[api.OK] < 200 || came[api.ErrRunType] < 25 || came[api.ErrRunZero] < 1 || came[api.ErrRunUser] < 5 || refused < 2 || wrote < 80 || late < 1 {
				t.Error(came, refused, wrote, late)
			}
		})
	}
}

// maze is an expression of names that are bound to constants, and set where others are known, or where they aren't.
func (g *grower) maze(depth int) string {
	if depth == 0 {
		return g.turn()
	}
	var both []string
	was := g.scope
	var inner []variable
	for _, i := range g.Perm(5)[:1+g.Intn(3)] {
		name := "abcde"[i : i+1]
		both = append(both, "("+name+" "+g.pick("#t", "#f", "7", "7", g.any(), "(void)")+")")
		inner = append(inner, variable{name: name})
	}
	g.scope = append(was[:len(was):len(was)], inner...)
	l := []string{"(let (" + strings.Join(both, " ") + ") (begin"}
	for range 1 + g.Intn(4) {
		l = append(l, g.pick(g.turn(), g.turn(), g.maze(depth-1)))
	}
	l = append(l, "(cons "+g.any()+" "+g.any()+")))")
	g.scope = was
	return strings.Join(l, " ")
}

func (g *grower) any() string { return g.scope[g.Intn(len(g.scope))].name }

func (g *grower) turn() string {
	set := "(set! " + g.any() + " " + g.pick("7", "#f", g.any()) + ")"
	switch g.Intn(6) {
	case 0:
		return "(lambda () " + set + ")"
	case 1:
		return "(if " + g.any() + " " + set + " (void))"
	case 2:
		return "(if (" + g.pick("eq?", "eq?", "=") + " " + g.any() + " 7) (write-u8 65) " + set + ")"
	}
	return "(if " + g.any() + " " + g.any() + " " + set + ")"
}

func TestMazes(t *testing.T) {
	for seed := range 4 {
		t.Run(strconv.Itoa(seed), func(t *testing.T) {
			t.Parallel()
			g := &grower{Rand: rand.New(rand.NewSource(int64(seed)))}
			late, wrong := 0, 0
			for range 500 {
				g.scope = []variable{{name: "f"}}
				e := of("(let ((f #f)) " + g.maze(1+g.Intn(4)) + ")")
				out := wantFolded(t, e, "")
				if other := otherFold(g.Rand, e); !core.Equal(other, out) {
					t.Fatalf("Fold(%s): %s; the other way %s", textOf(e), textOf(out), textOf(other))
				}
				if unfolded(atOnce(g.Rand, e)) != "" {
					late++
				}
				if model.Run(e, "", enough).Err != api.OK {
					wrong++
				}
			}
			if late < 50 || wrong > 250 {
				t.Error(late, wrong)
			}
		})
	}
}

func TestPrograms(t *testing.T) {
	for _, x := range [][3]string{
		{"(define (fact n) (if (< n 2) 1 (* n (fact (- n 1))))) (fact 12)", "", "479001600"},
		{"(define k #f) (define n 0) (define l '()) (set! l (cons (call/cc (lambda (c) (set! k c) 0)) l)) (set! n (+ n 1)) (if (< n 4) (k n)) l", "", "(3 2 1 0)"},
		{"(define-syntax swap! (syntax-rules () ((_ a b) (let ((tmp a)) (set! a b) (set! b tmp))))) (let ((tmp 1) (y 2)) (swap! tmp y) (list tmp y))", "", "(2 1)"},
		{"(dynamic-wind (lambda () (write-u8 40)) (lambda () (call/cc (lambda (k) (k 5)))) (lambda () (write-u8 41)))", "", "5"},
		{"(let loop ((c (read-u8))) (if (eof-object? c) 'end (begin (write-u8 c) (loop (read-u8)))))", "hello", "end"},
		{"(define (counter n) (lambda () (set! n (+ n 1)) n)) (define a (counter 1)) (define b (counter 5)) (a) (a) (b) (list (a) (b))", "", "(4 7)"},
		{"(let ((x 5) (y 7)) (cond ((< y x) 'less) ((= x y) 'same) (else (let* ((z (* x y)) (w (- z 1))) (list z w)))))", "", "(35 34)"},
		{"(let* ((a 1) (b (+ a 1)) (c (+ b 1))) (and (< a b) (or (= b c) (eq? 'x 'x)) (list a b c)))", "", "(1 2 3)"},
	} {
		l, _, _ := read.Read(x[0])
		e, _, wrong := expand.Program(l, api.MaxFuel)
		if wrong != api.OK {
			t.Fatal(x, wrong)
		}
		if e, wrong = fix.Fix(e); wrong != api.OK {
			t.Fatal(x, wrong)
		}
		boxed, wrong := box.Box(e)
		if wrong != api.OK {
			t.Fatal(x, wrong)
		}
		for _, e := range []api.Expr{e, boxed} {
			out := wantFolded(t, e, x[1])
			if o := model.Run(out, x[1], enough); textOfShown(o) != x[2] {
				t.Error(x, o)
			}
		}
	}
}
