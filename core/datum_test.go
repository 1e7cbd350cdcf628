package core

import (
	"scrimshaw/api"
	"scrimshaw/data"
	"slices"
	"strings"
	"testing"
)

// P6.4

// examples are texts, and the expressions that they say.
func examples() map[string]api.Expr {
	a, b := ref("a"), ref("b")
	f := lam(names("x"), ref("x"))
	return map[string]api.Expr{
		"a":                             a,
		"if":                            ref("if"),
		"(quote a)":                     quote(sym("a")),
		"(quote quote)":                 quote(sym("quote")),
		"(quote ())":                    quote(api.Datum{Kind: api.DatList}),
		"(quote #f)":                    quote(boolean(0)),
		"(quote #t)":                    quote(boolean(1)),
		"(quote -5)":                    quote(number(-5)),
		"(quote #\\a)":                  quote(char('a')),
		"(set! a b)":                    set("a", b),
		"(set! set! (set! if a))":       set("set!", set("if", a)),
		"(if a b a)":                    cond(a, b, a),
		"(if if (if if if if) if)":      cond(ref("if"), cond(ref("if"), ref("if"), ref("if")), ref("if")),
		"(begin a b)":                   seq(a, b),
		"(begin a b b (begin a a))":     seq(a, b, b, seq(a, a)),
		"(lambda () a)":                 lam(nil, a),
		"(lambda (x) x)":                f,
		"(lambda (a b lambda) lambda)":  lam(names("a", "b", "lambda"), ref("lambda")),
		"(lambda (a b c d e f) a)":      lam(names("a", "b", "c", "d", "e", "f"), a),
		"(call a)":                      call(a),
		"(call call call)":              call(ref("call"), ref("call")),
		"(call a b a b a b a)":          call(a, b, a, b, a, b, a),
		"(prim void)":                   prim("void"),
		"(prim car a)":                  prim("car", a),
		"(prim cons a (prim cdr b))":    prim("cons", a, prim("cdr", b)),
		"(prim vector-set! a b a)":      prim("vector-set!", a, b, a),
		"(let () a)":                    let(nil, a),
		"(let ((a b)) a)":               let(names("a"), b, a),
		"(let ((let let)) (quote let))": let(names("let"), ref("let"), quote(sym("let"))),
		"(let ((a b) (b a) (c (quote 1))) (call a b))": let(names("a", "b", "c"), b, a, quote(number(1)), call(a, b)),
		"(letrec () a)":                                           rec(nil, a),
		"(letrec ((a (lambda (x) x)) (b a)) b)":                   rec(names("a", "b"), f, a, b),
		"(fix ((f (lambda (x) x))) a)":                            fixed(names("f"), f, a),
		"(fix ((a (lambda (x) x)) (b (lambda () a))) (call a b))": fixed(names("a", "b"), f, lam(nil, a), call(a, b)),
	}
}

func TestDataAndMake(t *testing.T) {
	for s, e := range examples() {
		got, err := Data(e)
		if text := textOfDatum(got); text != s || err != api.OK || raw(got) != raw(datum(s)) {
			t.Errorf("Data of %s: %s, %v", s, text, err)
		}
		made, err := Make(datum(s))
		if rawExpr(made) != rawExpr(e) || err != api.OK {
			t.Errorf("Make of %s: %s, %v", s, rawExpr(made), err)
		}
	}
}

func TestDataOfEachThatMayBe(t *testing.T) {
	for _, e := range someExprs() {
		d, err := Data(e)
		if err != api.OK || textOfDatum(d) != textOf(e) {
			t.Errorf("Data(%.300s): %.300s, %v", textOf(e), textOfDatum(d), err)
		}
		got, err := Make(d)
		if err != api.OK || rawExpr(got) != rawExpr(e) {
			t.Errorf("Make(%.300s): %.300s, %v", textOf(e), told(got), err)
		}
	}
}

func TestDataOfOnesThatMayNotBe(t *testing.T) {
	a := ref("a")
	for _, e := range append(withThemselves(), lam(names("a", "a"), a), lam(names("a"), a, a), lam(nil), let(names("a"), a), let(nil), fixed(nil, a), set("a"), ref("5"), prim("cadr", a), call(), quote(vector()), api.Expr{Kind: api.ExpClo, Const: number(0)}, nested(250, a), seq(many(4096)...), seq(append(many(4095), ref("5"))...)) {
		d, err := Data(e)
		if want := Check(e); err != want || err == api.OK || raw(d) != raw(api.Datum{}) || d.List != nil {
			t.Errorf("Data(%.300s): %.300s, %v", toldWhole(e), raw(d), err)
		}
	}
}

func wantNotMade(t *testing.T, d api.Datum) {
	t.Helper()
	if e, err := Make(d); err != api.ErrCoreForm || rawExpr(e) != rawExpr(api.Expr{}) || e.Names != nil || e.Kids != nil || e.Const.List != nil {
		s, _ := data.Text(d)
		t.Errorf("Make(%.300s): %.300s, %v", s, toldWhole(e), err)
	}
}

func TestDataOfNoExpression(t *testing.T) {
	for _, s := range []string{
		"(if 1 2)", "(prim car)", "(fix ((f x)) f)", "5", "(quote (1))",
		"#t", "#\\a", "\"a\"", "()", "#()", "#(if a b c)", "(a . b)", "(quote . a)", "(call a . b)", "(if a b . c)",
		"(a)", "(f a)", "(car a)", "((quote a))", "((lambda () a))", "(5)", "(\"if\" a b c)", "(\"quote\" a)", "(#t a b)", "(#(if) a b c)",
		"(quote)", "(quote a b)", "(quote \"a\")", "(quote #())", "(quote (a . b))", "(quote (()))", "(quote #(1))", "(quote (quote a))",
		"(set!)", "(set! a)", "(set! a b c)", "(set! 5 a)", "(set! \"a\" b)", "(set! (a) b)", "(set! (quote a) b)", "(set! () a)", "(set! a 5)",
		"(if)", "(if a)", "(if a b)", "(if a b c d)", "(if a b 5)", "(if a b ())",
		"(begin)", "(begin a)", "(begin a 5)", "(begin 5 a)", "(begin a (begin a))",
		"(lambda)", "(lambda (a))", "(lambda a a)", "(lambda a)", "(lambda (a) a a)", "(lambda (a a) a)", "(lambda (a b a) a)", "(lambda (5) a)", "(lambda ((a)) a)", "(lambda (\"a\") a)", "(lambda (a . b) a)", "(lambda #(a) a)", "(lambda #() a)", "(lambda (a b c d e f g) a)", "(lambda \"\" a)", "(lambda 0 a)", "(lambda #f a)", "(lambda () 5)", "(lambda ())",
		"(call)", "(call 5)", "(call a 5)", "(call a b c d e f g h)",
		"(prim)", "(prim a)", "(prim void a)", "(prim car a b)", "(prim cons a)", "(prim cadr a)", "(prim \"car\" a)", "(prim (car) a)", "(prim if a b c)", "(prim () a)", "(prim 5)", "(prim (void))", "(prim vector-set! a b)",
		"(let)", "(let ())", "(let a)", "(let a a)", "(let () a b)", "(let ((a)) a)", "(let ((a b c)) a)", "(let (a) a)", "(let (a b) a)", "(let ((a b) (a c)) a)", "(let ((a b) c) a)", "(let ((5 a)) a)", "(let ((\"a\" b)) a)", "(let (((a) b)) a)", "(let ((a 5)) a)", "(let ((a . b)) a)", "(let (#(a b)) a)", "(let #((a b)) a)", "(let ((a b) . c) a)", "(let ((a b)) 5)", "(let ((a b)))", "(let (()) a)", "(let \"\" a)", "(let #() a)", "(let f ((a b)) a)",
		"(letrec)", "(letrec ())", "(letrec a a)", "(letrec ((a)) a)", "(letrec ((a b) (a c)) a)", "(letrec ((a b)) a a)", "(letrec (a) a)", "(letrec ((a 5)) a)", "(letrec #((a b)) a)",
		"(fix () a)", "(fix ((f (lambda () a))))", "(fix ((f (lambda () a)) (f (lambda () a))) f)", "(fix ((f (lambda () a)) (g a)) f)", "(fix ((f (quote 1))) f)", "(fix (f) f)", "(fix f f)", "(fix ((f (lambda () a))) f f)", "(fix ((f (lambda (a a) a))) f)", "(fix ((f (fix ((g (lambda () a))) g))) f)",
		"(Quote a)", "(quote! a)", "(let* () a)", "(begin0 a b)", "(clo 0)", "(closure 0 a)", "(letrec* () a)", "(cond (a b))", "(define a b)", "(ref a)", "(unquote a)",
	} {
		wantNotMade(t, datum(s))
		wantNotMade(t, datum("(begin a "+s+")"))
		wantNotMade(t, datum("(let ((a "+s+")) b)"))
		wantNotMade(t, datum("(lambda (a) "+s+")"))
		wantNotMade(t, datum("(set! a "+s+")"))
	}
}

// bent are data which are the datum but for one field of one that is within.
func bent(d api.Datum, whole func(api.Datum) api.Datum) []api.Datum {
	number, text := d, d
	number.Int++
	text.Text += "\n"
	out := row(whole(number), whole(text))
	if len(d.List) == 0 {
		d.List = row(api.Datum{Kind: api.DatInt})
		return append(out, whole(d))
	}
	for i, item := range d.List {
		out = append(out, bent(item, func(b api.Datum) api.Datum {
			d.List = slices.Clone(d.List)
			d.List[i] = b
			return whole(d)
		})...)
	}
	return out
}

func TestDataWithFieldsThatTheyDoNotUse(t *testing.T) {
	for s := range examples() {
		if strings.Contains(s, "-5") || strings.Contains(s, "#f") || strings.Contains(s, "#\\") || strings.Contains(s, "1") {
			continue // there may be another number
		}
		for _, d := range bent(datum(s), func(d api.Datum) api.Datum { return d }) {
			wantNotMade(t, d)
		}
	}
}

func TestConstantsThatMayNotBe(t *testing.T) {
	for _, c := range row(boolean(2), boolean(-1), number(api.MaxInt+1), number(-api.MaxInt-2), char(256), char(-1), sym(""), sym("5"), sym("a b"), api.Datum{Kind: -1}, api.Datum{Kind: api.DatKinds}, api.Datum{Kind: api.DatSymbol, Text: "a", Int: 1}, api.Datum{Kind: api.DatInt, Text: "a"}, api.Datum{Kind: api.DatBool, List: row(boolean(0))}) {
		wantNotMade(t, c)
		wantNotMade(t, list(sym("quote"), c))
		wantNotMade(t, list(sym("call"), list(sym("quote"), c)))
	}
	for _, name := range []string{"", "5", "-5", "a b", ".", strings.Repeat("a", 65), "a\n"} {
		wantNotMade(t, sym(name))
		wantNotMade(t, list(sym("set!"), sym(name), sym("a")))
		wantNotMade(t, list(sym("lambda"), list(sym("a"), sym(name)), sym("a")))
		wantNotMade(t, list(sym("let"), list(list(sym(name), sym("a"))), sym("a")))
		wantNotMade(t, list(sym(name), sym("a"), sym("b")))
		wantNotMade(t, list(sym(name)))
	}
}

// within is a datum within so many calls.
func within(depth int, d api.Datum) api.Datum {
	for range depth {
		d = list(sym("call"), d)
	}
	return d
}

func wantMade(t *testing.T, d api.Datum, want api.Expr) {
	t.Helper()
	if e, err := Make(d); err != api.OK || rawExpr(e) != rawExpr(want) {
		t.Errorf("Make(%.300s): %.300s, %v", textOfDatum(d), toldWhole(e), err)
	}
}

func TestMakeOfDeepOnesAndMany(t *testing.T) {
	a := sym("a")
	wantMade(t, within(249, a), nested(249, ref("a")))
	wantNotMade(t, within(250, a))
	wantNotMade(t, within(90000, a))
	wantMade(t, within(249, list(sym("quote"), api.Datum{Kind: api.DatList})), nested(249, quote(api.Datum{Kind: api.DatList})))
	wantMade(t, within(248, list(sym("call"), a, a)), nested(248, call(ref("a"), ref("a"))))
	wantNotMade(t, within(249, list(sym("call"), a, a)))
	begin := func(n int) api.Datum { return list(append(row(sym("begin")), slices.Repeat(row(a), n)...)...) }
	wantMade(t, begin(4095), seq(many(4095)...))
	wantNotMade(t, begin(4096))
	wantNotMade(t, begin(99990))
	wantNotMade(t, list(sym("lambda"), list(slices.Repeat(row(a), 90000)...), a))
	var bound []api.Datum
	for _, name := range numbers(4095) {
		bound = append(bound, list(sym(name), a))
	}
	wantMade(t, list(sym("let"), list(bound[1:]...), a), let(numbers(4095)[1:], many(4095)...))
	wantNotMade(t, list(sym("let"), list(bound...), a))
}

// It ends also where nothing is promised.
func TestMakeOfDataWithinThemselves(t *testing.T) {
	for _, words := range []string{"call a b", "begin a b", "if a b c", "lambda (a) b", "set! a b", "prim car a", "quote a", "let ((a b)) c", "fix ((a b)) c"} {
		d := datum("(" + words + ")")
		for i := 1; i < len(d.List); i++ {
			looped := list(slices.Clone(d.List)...)
			looped.List[i] = looped
			wantNotMade(t, looped)
		}
	}
	d := sym("a")
	for range 200 {
		d = list(sym("begin"), d, d, d)
	}
	wantNotMade(t, d)
}

// R4: arguments are as they were, and what is answered has memory of its own.

func TestDataOwnTheirMemory(t *testing.T) {
	spare := api.Datum{Kind: api.DatList, List: append(make([]api.Datum, 0, 4), number(1))[:0]}
	for _, e := range append(someExprs(), quote(spare), call(quote(spare))) {
		was := rawExpr(e)
		given := memory{}
		given.ofExpr(e)
		d, _ := Data(e)
		own := memory{}
		own.ofDatum(d)
		text := raw(d)
		made, err := Make(d)
		if err != api.OK || raw(d) != text || rawExpr(e) != was {
			t.Errorf("%.300s is another one", textOf(e))
		}
		of := memory{}
		of.ofExpr(made)
		if own.shared() || of.shared() {
			t.Errorf("what is made of %.300s shares memory within itself", textOf(e))
		}
		for place := range own {
			if given[place] > 0 || of[place] > 0 {
				t.Errorf("what is made of %.300s shares memory with it", textOf(e))
			}
		}
	}
	if e, err := Make(list(sym("quote"), spare)); err != api.OK || cap(e.Const.List) > 0 {
		t.Errorf("%v, %v", rawExpr(e), err)
	}
	// Data that share their memory become expressions that do not.
	l := list(sym("call"), sym("a"))
	e, err := Make(list(sym("begin"), l, l, list(sym("lambda"), l, l)))
	own := memory{}
	own.ofExpr(e)
	if err != api.OK || own.shared() || rawExpr(e) != rawExpr(seq(call(ref("a")), call(ref("a")), lam(names("call", "a"), call(ref("a"))))) {
		t.Errorf("%s, %v", rawExpr(e), err)
	}
}
