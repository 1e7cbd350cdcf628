package expand

import (
	"math/rand"
	"scrimshaw/api"
	"scrimshaw/core"
	"slices"
	"strconv"
	"strings"
	"testing"
)

// P7.3, and P7.2 of programs that grew by chance: the same as the other way of the tests says.

var somePrograms = []string{
	"(define x 1) (set! x 2) x",
	"(define-syntax swap! (syntax-rules () ((_ a b) (let ((tmp a)) (set! a b) (set! b tmp))))) (let ((tmp 1) (y 2)) (swap! tmp y) (list tmp y))",
	"(define k #f) (define n 0) (define l '()) (set! l (cons (call/cc (lambda (c) (set! k c) 0)) l)) (set! n (+ n 1)) (if (< n 4) (k n)) l",
	"(define (f x . ()) (cond ((pair? x) => f) ((equal? x '(1 #(2 \"s\"))) 'a) (else (do ((i 0 (+ i 1))) ((> i 9) i) (write-u8 i))))) (apply f '(1))",
	"(lambda () (define-syntax d (syntax-rules () ((_ n v) (define n (lambda () v))))) (d a (b)) (d b (a)) (a))",
	"(letrec-syntax ((e? (syntax-rules () ((_) #t) ((_ x . y) (o? . y)))) (o? (syntax-rules () ((_) #f) ((_ x . y) (e? . y))))) (list (e? 1 2 3) (o? 1 2 3)))",
	"(begin (define-syntax m (syntax-rules ::: (else) ((_ else x :::) '(x :::)) ((_ y) (let* ((a y) (b a)) b)))) (m else 1 2)) (m 5) (let ((else 1)) (m else))",
}

func TestNoNameIsFreeOrBoundTwice(t *testing.T) {
	for _, s := range somePrograms {
		e, _, wrong := Program(of(s), api.MaxFuel)
		wantClean(t, s, e)
		if wrong != api.OK {
			t.Errorf("%s: %v", s, wrong)
		}
	}
}

func wantClean(t *testing.T, s string, e api.Expr) {
	t.Helper()
	bound := boundIn(e)
	once := slices.Compact(slices.Sorted(slices.Values(bound)))
	if core.Check(e) != api.OK || len(core.Free(e)) > 0 || len(once) != len(bound) {
		t.Errorf("%.2000s: %s", s, toldAs(e))
	}
}

// wantFueled holds a program with other fuel against what it is with as much as there may be.
func wantFueled(t *testing.T, s string) {
	t.Helper()
	l := of(s)
	e, n, _ := Program(l, api.MaxFuel)
	was := rawExpr(e)
	for _, fuel := range []int{n, n + 1, n + 100} {
		if e, m, wrong := Program(l, min(fuel, api.MaxFuel)); rawExpr(e) != was || m != n || wrong != api.OK {
			t.Errorf("%s: with the fuel %d %s, %d, %v; want %d", s, fuel, toldAs(e), m, wrong, n)
		}
	}
	for _, fuel := range []int{0, n / 2, n - 1} {
		if fuel >= 0 && fuel < n {
			if e, _, wrong := Program(l, fuel); rawExpr(e) != rawExpr(api.Expr{}) || wrong != api.ErrExpandFuel {
				t.Errorf("%s: with the fuel %d %s, %v", s, fuel, toldAs(e), wrong)
			}
		}
	}
}

func TestFuelThatIsMoreOrLess(t *testing.T) {
	for _, s := range somePrograms {
		wantFueled(t, s)
	}
}

// Programs with names of their own choice where $ and a letter stand.
var openPrograms = []string{
	"(let (($a 1) ($b 2)) (or $a (cons $a $b)))",
	"(define $a 1) (define ($b $c) (when $c (list $a $c))) ($b $a)",
	"(define-syntax $a (syntax-rules () ((_ $b $c) (let (($d $b)) (set! $b $c) (set! $c $d))))) (lambda ($c $d) ($a $c $d) ($a $d $c) $c)",
	"(lambda ($a) (define $b $a) (define-syntax $c (syntax-rules () ((_ $d) (cons $b $d)))) (let (($b 1)) ($c $b)))",
	"(let $a (($b 0) ($c '())) (if (= $b 9) $c ($a (+ $b 1) (cons $b $c))))",
	"(do (($a 0 (+ $a 1)) ($b '() (cons $a $b))) ((= $a 5) $b) (set! $b (map (lambda ($c) (* $c $a)) $b)))",
	"(letrec (($a (lambda ($b) ($c $b))) ($c (lambda ($d) ($a $d)))) $a)",
	"(let-syntax (($a (syntax-rules () ((_ $b ...) (list $b ... 'x))))) (lambda ($b $c) ($a $b $c ($a))))",
	"(define-syntax $a (syntax-rules () ((_ $b $c ...) (define-syntax $b (syntax-rules () ((_ $d) (let (($c 5) ...) (cons $d 1)))))))) ($a $d $b $c) (lambda ($b) ($d $b))",
	"(dynamic-wind (lambda () 1) (lambda () (call/cc (lambda ($a) (apply $a '(2))))) (lambda () 3))",
}

// Names of the prelude, of the base and of the prelude's templates, and others; those of which a program means what they are come not to be bound.
var manyNames = strings.Fields("x t if let define lambda begin quote set! tmp loop n v a f l cond else => and car pair? list not equal? e c p s w k to syntax-rules define-syntax do-step x.0 v.1 .. - +")

func TestNamesAreOfNoMoment(t *testing.T) {
	r := rand.New(rand.NewSource(7))
	for _, s := range openPrograms {
		fill := func(names []string) string {
			return strings.NewReplacer("$a", names[0], "$b", names[1], "$c", names[2], "$d", names[3]).Replace(s)
		}
		plain := fill([]string{"q1", "q2", "q3", "q4"})
		e, n, wrong := Program(of(plain), api.MaxFuel)
		if wrong != api.OK {
			t.Errorf("%s: %v", plain, wrong)
		}
		taken := strings.Fields(strings.NewReplacer("(", " ", ")", " ", "'", " quote ").Replace(s))
		for range 60 {
			names := slices.Clone(manyNames)
			names = slices.DeleteFunc(names, func(name string) bool { return slices.Contains(taken, name) })
			r.Shuffle(len(names), func(i, j int) { names[i], names[j] = names[j], names[i] })
			other := fill(names[:4])
			got, m, wrong := Program(of(other), api.MaxFuel)
			if told(got) != told(e) || m != n || wrong != api.OK {
				t.Fatalf("%s:\n%s, %d, %v; want\n%s, %d", other, told(got), m, wrong, told(e), n)
			}
		}
	}
}

type grower struct {
	*rand.Rand
	rulesWithin int // how many macros' rules what is grown stands in: there dots would be those of the outer ones
}

func (g *grower) pick(l ...string) string { return l[g.Intn(len(l))] }

func (g *grower) one(n int) bool { return g.Intn(n) == 0 }

func (g *grower) name() string {
	if g.one(12) {
		return g.pick("if", "let", "car", "or", "define", "lambda", "begin", "else", "...", "_", "t", "tmp", "quote", "not")
	}
	return g.pick("a", "b", "c", "d", "f", "g", "h", "m", "n")
}

func (g *grower) names(n int) []string {
	var l []string
	for len(l) < n {
		if name := g.name(); !slices.Contains(l, name) || g.one(50) {
			l = append(l, name)
		}
	}
	return l
}

func (g *grower) atom(scope []string) string {
	if g.one(60) {
		return g.pick("x", "m", "let", "if", "zz")
	}
	if len(scope) > 0 && !g.one(4) {
		return g.pick(scope...)
	}
	return g.pick("1", "-5", "#t", "#\\a", "'a", "'()", "\"\"", "\"st\"", "'(a b)", "#(a 1)", "'(1 #(if \"x\") . else)", "car", "cons", "void", "not", "append", "apply")
}

func (g *grower) all(n, size int, scope []string) string {
	var l []string
	for range n {
		l = append(l, g.expr(size/max(n, 1), scope))
	}
	return strings.Join(l, " ")
}

func with(scope []string, more ...string) []string { return slices.Concat(scope, more) }

// expr is a text of about so many parts, in which the names of the scope may stand.
func (g *grower) expr(size int, scope []string) string {
	if size < 2 {
		return g.atom(scope)
	}
	size--
	n := 1 + g.Intn(3)
	switch g.Intn(16) {
	case 0:
		return "(if " + g.all(2+g.Intn(2), size, scope) + ")"
	case 1:
		return "(begin " + g.all(n, size, scope) + ")"
	case 2:
		if len(scope) > 0 {
			return "(set! " + g.pick(scope...) + " " + g.expr(size, scope) + ")"
		}
		return g.expr(size, scope)
	case 3, 4:
		l := g.names(n)
		return "(lambda (" + strings.Join(l, " ") + ") " + g.body(size, with(scope, l...)) + ")"
	case 5:
		l := g.names(n)
		return "(letrec (" + g.pairs(l, size/2, with(scope, l...)) + ") " + g.body(size/2, with(scope, l...)) + ")"
	case 6, 7:
		l := g.names(n)
		return "(" + g.pick("let", "let", "let*", "let loop") + " (" + g.pairs(l, size/2, scope) + ") " + g.body(size/2, with(scope, l...)) + ")"
	case 8:
		return "(" + g.pick("cons", "+", "eq?") + " " + g.all(2, size, scope) + ")"
	case 9:
		return "(" + g.pick("car", "write-u8", "not", "reverse") + " " + g.expr(size, scope) + ")"
	case 10:
		return "(" + g.pick("or", "and", "list", "when 1", "unless 2") + " " + g.all(n, size, scope) + ")"
	case 11:
		return "(cond (" + g.all(n, size/2, scope) + ") (" + g.expr(size/4, scope) + " => car) (" + g.pick("else", "1") + " " + g.expr(size/4, scope) + "))"
	case 12:
		return "(" + g.pick("let-syntax", "letrec-syntax") + " ((" + g.pick("m", "n") + " " + g.rules(size/2, scope) + ")) " + g.body(size/2, scope) + ")"
	case 13, 14:
		return "(" + g.pick("m", "m", "n", "m else", "n 1", "m (1 2)", "m 1 2") + " " + g.all(g.Intn(3), size, scope) + ")"
	}
	return "(" + g.all(n, size, scope) + ")"
}

func (g *grower) pairs(l []string, size int, scope []string) string {
	out := ""
	for _, name := range l {
		out += "(" + name + " " + g.expr(size/len(l), scope) + ")"
	}
	return out
}

// rules are of a macro that takes some number of parts.
func (g *grower) rules(size int, scope []string) string {
	g.rulesWithin++
	defer func() { g.rulesWithin-- }()
	e := func(more ...string) string { return g.expr(size/3, with(with(scope, more...), more...)) }
	dots := g.pick("...", "...", "...", ":::")
	l := []string{
		"((_) " + e() + ")",
		"((_ x) " + e("x") + ")",
		"((_ x y) " + e("x", "y") + ")",
		"((_ else x) " + e("x") + ")",
		"((_ x y) (let ((a x)) (if a y a)))",
		"((_ x . y) (cond (else x)))",
		"((_ . x) 'x)",
	}
	if g.one(4) {
		l = append(l, "((_ x y) (define x y))", "((_ x) (define a x))", "((_ x y) (set! x y))", "((_ x) (begin (define-syntax x (syntax-rules (else) ((_ y) (cons y a)))) (define b 1)))")
	}
	if g.rulesWithin == 1 || g.one(20) {
		l = append(l,
			"((_ x "+dots+") (list x "+dots+"))",
			"((_ x "+dots+") (begin 1 x "+dots+"))",
			"((_ x y "+dots+") (m y "+dots+"))",
			"((_ (x y) z "+dots+") (lambda (a) (cons x '(z "+dots+"))))",
			"((_ x y "+dots+") (let-syntax ((n (syntax-rules () ((_ z) (cons x z))))) (n x)))")
	}
	out := "(syntax-rules " + strings.TrimPrefix(dots+" ", "... ") + g.pick("()", "()", "(else)", "(else a =>)", "(m)")
	for range 1 + g.Intn(4) {
		out += " " + g.pick(l...)
	}
	return out + " ((_ . x) 2))"
}

func (g *grower) body(size int, scope []string) string {
	out := ""
	taken := map[string]int{}
	for range g.Intn(3) {
		out += g.definition(size/4, scope, taken) + " "
	}
	return out + g.all(1+g.Intn(2), size/2, scope)
}

// free is a name that is not taken yet in a place.
func (g *grower) free(taken map[string]int, name func() string) string {
	s := name()
	for range 20 {
		if taken[s] == 0 || g.one(100) {
			break
		}
		s = name()
	}
	taken[s]++
	return s
}

func (g *grower) definition(size int, scope []string, taken map[string]int) string {
	switch g.Intn(6) {
	case 0, 1:
		return "(define " + g.free(taken, g.name) + " " + g.expr(size, scope) + ")"
	case 2:
		l := g.names(g.Intn(3))
		return "(define (" + strings.Join(with([]string{g.free(taken, g.name)}, l...), " ") + ") " + g.body(size, with(scope, l...)) + ")"
	case 3:
		return "(begin " + g.definition(size, scope, taken) + g.pick("", "", " (begin)") + ")"
	}
	name := g.free(taken, func() string { return g.pick("m", "n", "o", "u") })
	return "(define-syntax " + name + " " + g.rules(size, scope) + ")"
}

func (g *grower) program() string {
	scope := []string{"p", "q"}
	taken := map[string]int{"p": 1, "q": 1, "m": 1, "n": 1}
	out := "(define p 1) (define (q) 2) "
	if g.one(20) {
		out = ""
	}
	out += "(define-syntax m " + g.rules(9, scope) + ") (define-syntax n " + g.rules(9, scope) + ") "
	for range 1 + g.Intn(3) {
		if g.one(3) {
			out += g.definition(g.Intn(12), scope, taken) + " "
		} else {
			out += g.expr(1+g.Intn(25), scope) + " "
		}
	}
	return out
}

// bent is a text with a part of it left out, laid twice or changed for another one.
func (g *grower) bent(l []api.Datum) []api.Datum {
	l = slices.Clone(l)
	if len(l) == 0 {
		return l
	}
	i := g.Intn(len(l))
	if len(l[i].List) > 0 && l[i].Kind != api.DatDotted && !g.one(4) {
		l[i].List = g.bent(l[i].List)
		return l
	}
	switch g.Intn(7) {
	case 0:
		return slices.Delete(l, i, i+1)
	case 1:
		return slices.Insert(l, i, l[g.Intn(len(l))])
	case 2:
		l[i] = of(g.pick("()", "(1 . 2)", "(m . a)", "(begin . 1)", "(define)", "(define x)", "(quote)", "(lambda x 1)", "(lambda (a a) 1)", "(car 1 2)", "(1 2 3 4 5 6 7 8)", "(set! if 1)", "(set! zz 1)", "(define 1 2)", "(define-syntax m 1)", "#(1)", "(begin)", "(syntax-rules ())", "(if)"))[0]
	case 3:
		l[i] = sym(g.name())
	case 4:
		l[i] = l[g.Intn(len(l))]
	case 5:
		if l[i].Kind == api.DatList && len(l[i].List) > 0 {
			return slices.Concat(l[:i], l[i].List, l[i+1:])
		}
	case 6:
		l[i] = list(l[i])
	}
	return l
}

func TestGrownPrograms(t *testing.T) {
	for seed := range 8 {
		t.Run(strconv.Itoa(seed), func(t *testing.T) {
			t.Parallel()
			growPrograms(t, &grower{Rand: rand.New(rand.NewSource(int64(seed)))}, 125)
		})
	}
}

func growPrograms(t *testing.T, g *grower, many int) {
	came := map[api.Errno]int{}
	used := 0
	for range many {
		l := of(g.program())
		if g.one(3) {
			for range 1 + g.Intn(2) {
				l = g.bent(l)
			}
		}
		fuel := 40
		if g.one(10) {
			fuel = g.Intn(6)
		}
		was := rawAll(l)
		want, at, errno := otherProgram(l, fuel)
		e, n, wrong := Program(l, fuel)
		got := ""
		if wrong == api.OK {
			got = toldAs(e)
			wantClean(t, textsOf(l), e)
			used += n
		} else if rawExpr(e) != rawExpr(api.Expr{}) {
			t.Fatalf("%s: %s beside an error", textsOf(l), toldAs(e))
		}
		if got != want || n != at || wrong != errno {
			t.Fatalf("%s:\n%s, %d, %v; want\n%s, %d, %v", textsOf(l), got, n, wrong, want, at, errno)
		}
		if rawAll(l) != was {
			t.Fatalf("%s is another one", textsOf(l))
		}
		came[errno]++
	}
	if came[api.OK] < many/3 || came[api.ErrExpandFree] < many/20 || used < many {
		t.Errorf("%v, %d uses of macros", came, used)
	}
}
