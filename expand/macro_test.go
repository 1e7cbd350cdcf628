package expand

import (
	"scrimshaw/api"
	"strconv"
	"strings"
	"testing"
)

// P7.2, of macros: what rules may be, what literals are, what an alias means.

// macroText is the definition of a macro m.
func macroText(rules string) string { return "(define-syntax m (syntax-rules " + rules + ")) " }

func TestRulesOfMacros(t *testing.T) {
	for _, s := range []string{"", "1", "x", "(1)", "((x))", "x (1)", "(x . y)", "x y ()", "#()", "() x", "() ()", "() ((_) 1 2)", "() ((_))", "() ((_) . 1)", "() #((_) 1)", "() ((_) 1) 2", "\"...\" ()", "() . x"} {
		wantWrong(t, macroText(s), 0, api.ErrExpandForm)
		wantWrong(t, "1 "+macroText(s), 1, api.ErrExpandForm)
	}
	wantWrong(t, "(define-syntax m (let (x) 1))", 0, api.ErrExpandForm)
	wantWrong(t, "(define-syntax m (list syntax-rules ()))", 0, api.ErrExpandForm)
	wantWrong(t, "(define syntax-rules 1) "+macroText("()"), 1, api.ErrExpandForm)
	want(t, "(define-syntax d (syntax-rules () ((_ n) (define-syntax n (syntax-rules () ((_) 1)))))) (let ((syntax-rules 1)) (d m) (m))", "(let ((v.0 (quote 1))) (quote 1))")
	// An error of the rules is told where they are defined, though they are of no use.
	for rules, errno := range map[string]api.Errno{
		"() (1 1)": api.ErrRulesForm, "() ((1) 1)": api.ErrRulesForm, "() (() 1)": api.ErrRulesForm, "() ((_ x x) 1)": api.ErrRulesForm, "() ((_ ...) 1)": api.ErrRulesForm, "() ((_ x ... ...) 1)": api.ErrRulesForm, "() ((_) ...)": api.ErrRulesForm,
		"(...)": api.ErrRulesForm, "(x x)": api.ErrRulesForm, "_ ()": api.ErrRulesForm, "x (x)": api.ErrRulesForm,
		"() ((_ x ...) x)": api.ErrRulesDepth, "() ((_ x) (x ...))": api.ErrRulesDepth, "() ((_ x ...) x) ((_) ...)": api.ErrRulesForm, "() ((_ x ...) x) (_)": api.ErrExpandForm,
		"()" + strings.Repeat(" ((_) 1)", 33): api.ErrRulesMany, "() (x)" + strings.Repeat(" ((_) 1)", 33): api.ErrExpandForm,
	} {
		wantWrong(t, "1 2 "+macroText(rules), 2, errno)
		wantWrong(t, "1 2 (lambda () "+macroText(rules)+"3)", 2, errno)
	}
	want(t, macroText("()"+strings.Repeat(" ((_) 1)", 32))+"(m)", "(quote 1)")
	var literals []string
	for i := range 33 {
		literals = append(literals, "l"+strconv.Itoa(i))
	}
	wantWrong(t, macroText("("+strings.Join(literals, " ")+")"), 0, api.ErrRulesMany)
	want(t, macroText("("+strings.Join(literals[:32], " ")+") ((_ l31) 1)")+"(m l31)", "(quote 1)")
}

func TestUsesOfMacros(t *testing.T) {
	m := macroText("() ((_ a) (car a)) ((_ a b) '(b . a)) ((x . y) (quote y))")
	want(t, m+"(m 1)", "(prim car (quote 1))")
	want(t, m+"(m)", "(quote ())")
	want(t, m+"(m . z)", "(quote z)")
	want(t, m+"(m . 5)", "(quote 5)")
	want(t, m+"(cons (m . z) (m z . z))", "(let ((v.0 (prim cons (quote z) (quote z)))) (prim cons (quote z) v.0))")
	want(t, m+"(m a #t)", "(let ((v.0 (prim cons (quote #t) (quote a)))) v.0)")
	wantWrong(t, macroText("() ((_ a) a)")+"(m)", 1, api.ErrRulesNone)
	wantWrong(t, macroText("() ((_ a) a)")+"1 (lambda () (m . 1))", 2, api.ErrRulesNone)
	wantWrong(t, macroText("() ((_ (a ...) (b ...)) '((a b) ...))")+"(m (1) ())", 1, api.ErrRulesUneven)
	wantWrong(t, m+"m", 1, api.ErrExpandUse)
	wantWrong(t, m+"(car m)", 1, api.ErrExpandUse)
	wantWrong(t, m+"(set! m 1)", 1, api.ErrExpandUse)
	// A macro that is used makes no difference to what else there is in the place.
	want(t, m+"(let ((a 1)) (m a))", "(let ((v.0 (quote 1))) (prim car v.0))")
	want(t, "(define-syntax begin2 (syntax-rules () ((_ x ...) (begin x ...)))) (write-u8 (begin2 1 2))", "(prim write-u8 (begin (quote 1) (quote 2)))")
	want(t, "(define-syntax b (syntax-rules () ((_ (x v) y) ((lambda (x) y) v)))) (b (z 1) (b (z z) z))", "(let ((v.0 (quote 1))) (let ((v.1 v.0)) v.1))")
}

func TestManyAreMade(t *testing.T) {
	rules := "() ((_ (a ...)) '(a ... a ...))"
	use := func(n int) []api.Datum {
		var l []api.Datum
		for range n {
			l = append(l, integer(1))
		}
		return append(of(macroText(rules)), list(sym("m"), list(l...)))
	}
	// (quote (..)) has three data, and what is quoted.
	wantWrongData(t, use(2047), 5, 1, api.ErrRulesMany)
	wantWrongData(t, use(2046), 5, 2, api.ErrExpandMany)
	wantWrongData(t, use(125), 5, 2, api.ErrExpandMany)
	if _, n, wrong := Program(use(124), 5); n != 1 || wrong != api.OK {
		t.Errorf("%d, %v", n, wrong)
	}
}

func TestLiterals(t *testing.T) {
	m := macroText("(else => car) ((_ else) 1) ((_ =>) 2) ((_ car) 3) ((_ x) 4) ((_ x y) 5) ((_ (x else)) 6)")
	for s, value := range map[string]string{"else": "1", "=>": "2", "car": "3", "cdr": "4", "elsa": "4", "1": "4"} {
		want(t, m+"(m "+s+")", "(quote "+value+")")
		want(t, m+"(lambda () (m "+s+"))", "(lambda () (quote "+value+"))")
		want(t, m+"(lambda (cdr x elsa) (m "+s+"))", "(lambda (v.0 v.1 v.2) (quote "+value+"))")
		// Where it is bound, it is no literal.
		if value != "4" {
			want(t, m+"(lambda ("+s+") (m "+s+"))", "(lambda (v.0) (quote 4))")
			want(t, m+"(let-syntax (("+s+" (syntax-rules ()))) (m "+s+"))", "(quote 4)")
			want(t, m+"(define (f) (m "+s+")) (define "+s+" 1) (f)", "(letrec ((v.0 (lambda () (quote "+value+"))) (v.1 (quote 1))) (call v.0))")
			want(t, "(define "+s+" 1) "+m+"(m "+s+")", "(letrec ((v.0 (quote 1))) (quote "+value+"))")
			want(t, "(let (("+s+" 1)) "+m+"(cons (m "+s+") (lambda ("+s+") (m "+s+"))))", "(let ((v.0 (quote 1))) (prim cons (quote "+value+") (lambda (v.1) (quote 4))))")
			want(t, m+"(let () (define x (m "+s+")) (define "+s+" 1) x)", "(let () (letrec ((v.0 (quote 4)) (v.1 (quote 1))) v.0))")
		}
	}
	// What is no literal by its meaning is itself in what comes of it, and says its root where it is quoted.
	m = macroText("(else) ((_ else) 'it) ((_ x) (cons x 'x)) ((_ x y) '(x y))")
	want(t, m+"(lambda (else) (m else))", "(lambda (v.0) (prim cons v.0 (quote else)))")
	want(t, m+"(lambda (else) (m else else))", "(let ((v.0 (prim cons (quote else) (prim cons (quote else) (quote ()))))) (lambda (v.1) v.0))")
	want(t, m+"(m else 1)", "(let ((v.0 (prim cons (quote else) (prim cons (quote 1) (quote ()))))) v.0)")
	want(t, m+"(m (quote else))", "(let ((v.0 (prim cons (quote quote) (prim cons (quote else) (quote ()))))) (prim cons (quote else) v.0))")
	want(t, m+"(lambda (else) (m (begin else)))", "(let ((v.0 (prim cons (quote begin) (prim cons (quote else) (quote ()))))) (lambda (v.1) (prim cons v.1 v.0)))")
	// It is looked at however deep it stands, in vectors and tails too.
	m = macroText("(else) ((_ #(else) (x . else)) 1) ((_ x y) 2)")
	want(t, m+"(m #(else) (1 . else))", "(quote 1)")
	want(t, m+"(lambda (else) (m #(else) (1 . else)))", "(lambda (v.0) (quote 2))")
	want(t, "(lambda (else) "+m+"(m #(else) (1 . else)))", "(lambda (v.0) (quote 1))")
	// The marks that are literals: any symbol may be one, also what stands for any datum.
	m = macroText("(_) ((m _) 1) ((m x) 2)")
	want(t, m+"(cons (m _) (m 5))", "(prim cons (quote 1) (quote 2))")
	// The use's first item is not looked at.
	want(t, macroText("(m) ((_ m) 1) ((_ x) 2)")+"(cons (m m) (m 3))", "(prim cons (quote 1) (quote 2))")
	want(t, macroText("(m) ((_ m) 1) ((_ x) 2)")+"(let-syntax ((n (syntax-rules () ((_ m) (m m))))) (n m))", "(quote 1)")
}

func TestLiteralsOfMacrosThatMakeUses(t *testing.T) {
	// The prelude's cond is used by a macro: its else is the same, as long as neither is bound.
	m := macroText("() ((_ x) (cond (x 1) (else 2)))")
	want(t, m+"(m 3)", "(if (quote 3) (quote 1) (quote 2))")
	want(t, "(lambda (else) "+m+"(m else))", "(lambda (v.0) (if v.0 (quote 1) (if v.0 (quote 2) (prim void))))")
	want(t, "(define else 5) "+m+"(m else)", "(letrec ((v.0 (quote 5))) (if v.0 (quote 1) (if v.0 (quote 2) (prim void))))")
	want(t, "(define else 5) (cond (else 1))", "(letrec ((v.0 (quote 5))) (if v.0 (quote 1) (prim void)))")
	want(t, "(define => 5) (cond (1 => 2))", "(letrec ((v.0 (quote 5))) (if (quote 1) (begin v.0 (quote 2)) (prim void)))")
	want(t, "(cond (1 => car))", "(let ((v.0 (quote 1))) (if v.0 (prim car v.0) (prim void)))")
	// A macro that is handed a literal, and one that hands it on.
	want(t, macroText("() ((_ x y) (cond (x y)))")+"(cons (m else 1) (lambda (else) (m else 1)))", "(prim cons (quote 1) (lambda (v.0) (if v.0 (quote 1) (prim void))))")
}

func TestHygiene(t *testing.T) {
	const swap = "(define-syntax swap! (syntax-rules () ((_ a b) (let ((tmp a)) (set! a b) (set! b tmp))))) "
	want(t, swap+"(let ((tmp 1) (y 2)) (swap! tmp y) (list tmp y))", "(let ((v.0 (quote 1)) (v.1 (quote 2))) (begin (let ((v.2 v.0)) (begin (set! v.0 v.1) (set! v.1 v.2))) (prim cons v.0 (prim cons v.1 (quote ())))))")
	want(t, swap+"(let ((let 1) (set! 2)) (swap! let set!))", "(let ((v.0 (quote 1)) (v.1 (quote 2))) (let ((v.2 v.0)) (begin (set! v.0 v.1) (set! v.1 v.2))))")
	want(t, swap+"(lambda (lambda define begin) (swap! lambda define))", "(lambda (v.0 v.1 v.2) (let ((v.3 v.0)) (begin (set! v.0 v.1) (set! v.1 v.3))))")
	// A name of a template means what it does where the macro was defined, also if it is bound there later.
	want(t, macroText("() ((_ y) (cons x y))")+"(define (f x) (m x)) (define x 1) f", "(letrec ((v.0 (lambda (v.2) (prim cons v.1 v.2))) (v.1 (quote 1))) v.0)")
	wantWrong(t, "(let ((x 1)) (define-syntax m (syntax-rules () ((_) y))) (let ((y 2)) (m)))", 0, api.ErrExpandFree)
	wantWrong(t, macroText("() ((_) y)")+"(lambda (y) (m))", 1, api.ErrExpandFree)
	// What binds and what is bound may come of unlike uses.
	want(t, "(define-syntax b (syntax-rules () ((_ x v y) (let ((x v)) y)))) (define-syntax c (syntax-rules () ((_ y) (b z 1 (cons z y))))) (let ((z 2)) (c z))", "(let ((v.0 (quote 2))) (let ((v.1 (quote 1))) (prim cons v.1 v.0)))")
	want(t, "(define-syntax n (syntax-rules () ((_ (x ...) () y) (lambda (x ...) y)) ((_ (x ...) (z . w) y) (n (x ... t) w (cons t y))))) (n () (1 2) 3)", "(lambda (v.0 v.1) (prim cons v.1 (prim cons v.0 (quote 3))))")
	// An alias that is bound by nobody means its original where it was made.
	want(t, macroText("() ((_) (quote (a b)))")+"(m)", "(let ((v.0 (prim cons (quote a) (prim cons (quote b) (quote ()))))) v.0)")
	want(t, macroText("() ((_) '#(a \"b\"))")+"(vector-ref (m) 0)", "(let ((v.0 (let ((v.1 (prim make-vector (quote 2) (quote #f)))) (begin (prim vector-set! v.1 (quote 0) (quote a)) (prim vector-set! v.1 (quote 1) (let ((v.2 (prim make-string (quote 1) (quote #\\x00)))) (begin (prim string-set! v.2 (quote 0) (quote #\\b)) v.2))) v.1)))) (prim vector-ref v.0 (quote 0)))")
	want(t, macroText("() ((_) #(a))")+"(m)", "(let ((v.0 (let ((v.1 (prim make-vector (quote 1) (quote #f)))) (begin (prim vector-set! v.1 (quote 0) (quote a)) v.1)))) v.0)")
	wantSame(t, macroText("() ((_ x y) (let loop ((x 1)) (if y x (loop x))))")+"(lambda (loop) (m x loop))", "(lambda (p) (let again ((x 1)) (if p x (again x))))")
}

func TestMacrosThatDefineMacros(t *testing.T) {
	// Dots that are escaped are the inner macro's.
	want(t, "(define-syntax d (syntax-rules () ((_ n v) (define-syntax n (syntax-rules () ((_ x (... ...)) (begin v x (... ...)))))))) (d m 1) (write-u8 (m 2 3 4))", "(prim write-u8 (begin (quote 1) (quote 2) (quote 3) (quote 4)))")
	// So are a blank, and dots of its own, that come of a template.
	want(t, "(define-syntax d (syntax-rules () ((_ n) (define-syntax n (syntax-rules () ((_ _ _ x) x)))))) (d m) (m 1 2 3)", "(quote 3)")
	want(t, "(define-syntax d (syntax-rules () ((_ n) (define-syntax n (syntax-rules ::: () ((_ x :::) (begin x ::: 5))))))) (d m) (write-u8 (m 1 2 3))", "(prim write-u8 (begin (quote 1) (quote 2) (quote 3) (quote 5)))")
	want(t, "(define-syntax d (syntax-rules () ((_ n e) (define-syntax n (syntax-rules e () ((_ x e) (begin x e 5))))))) (d m :::) (write-u8 (m 1 2 3))", "(prim write-u8 (begin (quote 1) (quote 2) (quote 3) (quote 5)))")
	want(t, "(define-syntax d (syntax-rules ::: () ((_ n) (define-syntax n (syntax-rules () ((_ x ...) (begin x ... 5))))))) (d m) (write-u8 (m 1 2 3))", "(prim write-u8 (begin (quote 1) (quote 2) (quote 3) (quote 5)))")
	// Dots of its own: three points are a symbol like any other then; but not as what is bound by another one's.
	want(t, macroText("::: () ((_ x ::: y) '(y x :::))")+"(m 1 2 3)", "(let ((v.0 (prim cons (quote 3) (prim cons (quote 1) (prim cons (quote 2) (quote ())))))) v.0)")
	want(t, macroText("::: () ((_ ... x) (cons x ...))")+"(m 1 2)", "(prim cons (quote 2) (quote 1))")
	want(t, macroText("... () ((_ x ...) (begin x ...))")+"(write-u8 (m 1 2))", "(prim write-u8 (begin (quote 1) (quote 2)))")
	// The inner macro's names are those of the place of its use, or of the outer macro.
	want(t, "(define-syntax d (syntax-rules () ((_ n) (define-syntax n (syntax-rules () ((_ y) (let ((x 1)) (cons x y)))))))) (d m) (lambda (x) (m x))", "(lambda (v.0) (let ((v.1 (quote 1))) (prim cons v.1 v.0)))")
	want(t, "(define-syntax d (syntax-rules () ((_ n z) (define-syntax n (syntax-rules () ((_ y) (let ((z 1)) (cons z y)))))))) (d m x) (lambda (x) (m x))", "(lambda (v.0) (let ((v.1 (quote 1))) (prim cons v.1 v.0)))")
	want(t, "(define-syntax d (syntax-rules () ((_ x) (let-syntax ((n (syntax-rules () ((_ y) (cons x y))))) (lambda (x) (n x)))))) (lambda (x) (d x))", "(lambda (v.0) (lambda (v.1) (prim cons v.0 v.1)))")
	// A literal that comes of a template counts by its root.
	want(t, "(define-syntax d (syntax-rules () ((_ n) (define-syntax n (syntax-rules (else) ((_ x y) (cons x y))))))) (d m) (lambda (else) (m else else))", "(lambda (v.0) (prim cons v.0 v.0))")
	wantWrong(t, "(define-syntax d (syntax-rules () ((_ n e) (define-syntax n (syntax-rules (else e)))))) (d m else)", 1, api.ErrRulesForm)
	want(t, "(define-syntax d (syntax-rules () ((_ n e) (define-syntax n (syntax-rules (e) ((_ e) 1) ((_ x) 2)))))) (d m else) (cons (m else) (m 3))", "(prim cons (quote 1) (quote 2))")
}

func TestFuel(t *testing.T) {
	loop := "(define-syntax l (syntax-rules () ((_) (l)))) "
	wantWrong(t, loop+"(l)", 1, api.ErrExpandFuel)
	wantWrong(t, loop+"1 (lambda () (car (l)))", 2, api.ErrExpandFuel)
	wantWrong(t, loop+"y (l)", 2, api.ErrExpandFuel)
	wantWrong(t, loop+"y (car (l))", 1, api.ErrExpandFree)
	wantWrongData(t, of("(and)"), 0, 0, api.ErrExpandFuel)
	wantWrongData(t, of("(and 1 2)"), 1, 0, api.ErrExpandFuel)
	wantWrongData(t, of("(and 1) (and 1)"), 1, 1, api.ErrExpandFuel)
	// The error of a use without fuel is that there is none.
	wantWrongData(t, of("(when)"), 0, 0, api.ErrExpandFuel)
	wantWrongData(t, of("(when)"), 1, 0, api.ErrRulesNone)
	// Those of the prelude don't count.
	for s, uses := range map[string]int{"": 0, "(call/cc apply)": 0, "(and)": 1, "(and 1 2 3)": 3, "(or 1 2)": 3, "(let* ((x 1) (y 2)) y)": 6, "(list 1 2)": 3, "(when 1 2)": 1, "'(and)": 0, "(cond (else 1))": 1, "(begin (and) (and)) (define x (and))": 3, "(define-syntax m (syntax-rules () ((_) (and))))": 0} {
		wantUses(t, s, uses)
	}
}

// An alias has a mark more for each template in which it stood, and 64 bytes at most; a mark is as long as the number says, which counts the 37 uses of the prelude, too.
func TestLongAliases(t *testing.T) {
	inExpressions := func(depth int, s string) string {
		s = "'" + s
		for range depth {
			s = "(let-syntax ((m (syntax-rules () ((_) " + s + ")))) (m))"
		}
		return s
	}
	inDefinitions := func(depth int, s string) string {
		s = "'" + s
		for range depth {
			s = "(begin (define-syntax m (syntax-rules () ((_) " + s + "))) (m))"
		}
		return s
	}
	long := func(n int) string { return strings.Repeat("x", n) }
	// The marks of expressions are ~75~, ~77~, .., those of what is gone over ahead ~1~, ~3~, ..
	for _, c := range []struct {
		source string
		fits   bool
	}{
		{inExpressions(6, long(40)), true},
		{"(list 1 2 3 4 5 6 7 8 9 10 11) " + inExpressions(6, long(35)), true}, {"(list 1 2 3 4 5 6 7 8 9 10 11) " + inExpressions(6, long(36)), false},
		{"(list 1 2 3 4 5 6 7 8 9 10 11 12) " + inExpressions(6, long(34)), true}, {"(list 1 2 3 4 5 6 7 8 9 10 11 12) " + inExpressions(6, long(35)), false},
		{"(and) " + inDefinitions(7, long(40)), true}, {"(and) (and) " + inDefinitions(7, long(40)), false}, {"(and) (and) " + inDefinitions(7, long(39)), true},
	} {
		e, at, wrong := Program(of(c.source), api.MaxFuel)
		if c.fits && (wrong != api.OK || !strings.Contains(told(e), "(quote xxx")) || !c.fits && (wrong != api.ErrRulesMany || at != len(of(c.source))-1) {
			t.Errorf("%s: %s, %d, %v", c.source, told(e), at, wrong)
		}
	}
}
