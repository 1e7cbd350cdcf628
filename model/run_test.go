package model

import (
	"math"
	"runtime"
	"scrimshaw/api"
	"scrimshaw/core"
	"scrimshaw/world"
	"strconv"
	"testing"
)

// P9.1

func TestStepsThatMayNotBe(t *testing.T) {
	good, bad := of("(begin (write-u8 65) 5)"), ref("x")
	for _, n := range []int{-1, -2, math.MinInt, api.MaxSteps + 1, api.MaxSteps + 2, math.MaxInt} {
		wantOutcome(t, good, "", n, api.Outcome{Err: api.ErrArg})
		// Ahead of what is wrong with the expression.
		wantOutcome(t, bad, "", n, api.Outcome{Err: api.ErrArg})
		wantOutcome(t, api.Expr{Kind: -1}, "a", n, api.Outcome{Err: api.ErrArg})
	}
	wantOutcome(t, good, "", api.MaxSteps, outcome(api.OK, "5", "A", 4))
	wantOutcome(t, good, "", 4, outcome(api.OK, "5", "A", 4))
	wantOutcome(t, good, "", 3, outcome(api.ErrRunSteps, "", "A", 3))
	wantOutcome(t, good, "", 2, outcome(api.ErrRunSteps, "", "", 2))
	wantOutcome(t, good, "", 1, outcome(api.ErrRunSteps, "", "", 1))
	wantOutcome(t, good, "", 0, outcome(api.ErrRunSteps, "", "", 0))
}

// looped is within itself.
func looped() api.Expr {
	e := seq(number(1), number(2))
	e.Kids[0] = e
	e.Kids[1] = e
	return e
}

func TestExpressionsThatMayNotBe(t *testing.T) {
	deep := number(1)
	for range api.MaxWithin - 1 {
		deep = call(lam(nil, deep))
	}
	var wide []api.Expr
	for range api.MaxCore {
		wide = append(wide, number(1))
	}
	for _, e := range []api.Expr{
		{Kind: -1}, {Kind: api.ExpKinds}, {Kind: api.ExpClo}, {Kind: math.MaxInt}, {Kind: math.MinInt}, {Kind: api.ExpClo, Const: datum("0")},
		quote(datum("(1)")), quote(datum("\"a\"")), quote(datum("#(1)")), quote(api.Datum{Kind: api.DatSymbol, Text: "5"}), quote(api.Datum{Kind: api.DatInt, Int: api.MaxInt + 1}), quote(api.Datum{Kind: api.DatBool, Int: 2}),
		{Name: "a"}, {Kind: api.ExpRef}, ref("a b"), set("x", number(1)), {Kind: api.ExpIf}, {Kind: api.ExpSeq}, seq(number(1)), {Kind: api.ExpCall}, {Kind: api.ExpLam}, {Kind: api.ExpLet},
		{Kind: api.ExpRec}, {Kind: api.ExpFix}, binding(api.ExpFix, nil, number(1)), binding(api.ExpFix, names("x"), number(1), number(2)), binding(api.ExpLet, names("x", "x"), number(1), number(2), ref("x")),
		lam(names("a", "b", "c", "d", "e", "f", "g"), number(1)), lam(names("a", "a"), number(1)), cond(number(1), number(2)), prim("car"), prim("car", number(1), number(2)), prim("cadr", number(1)), prim("", number(1)),
		call(number(1), number(1), number(1), number(1), number(1), number(1), number(1), number(1)), seq(number(1), cond()), deep, seq(wide...), looped(),
		// What could not be come to as well.
		cond(number(1), number(2), prim("cadr", number(1))), lam(nil, ref("")),
	} {
		for _, n := range []int{0, 1, 1000, api.MaxSteps} {
			if got := Run(e, "input", n); told(got) != told(api.Outcome{Err: api.ErrRunForm}) {
				t.Errorf("%v: %s", e.Kind, told(got))
			}
		}
	}
}

func TestNamesThatAreFree(t *testing.T) {
	for _, s := range []string{"x", "(begin (write-u8 65) x)", "(if #t 1 x)", "(lambda (y) x)", "(let ((x x)) 1)", "(let ((x 1) (y x)) y)", "(begin (let ((x 1)) x) x)", "(begin (lambda (x) x) x)", "(begin (letrec ((x 1)) x) x)", "(fix ((f (lambda () g))) 1)",
		"(set! x 1)", "(let ((x 1)) (set! y x))", "(lambda () (set! x 1))", "(car2 1)", "(let ((x (set! x 1))) x)"} {
		for _, n := range []int{0, 1, 1000, api.MaxSteps} {
			wantOutcome(t, of(s), "input", n, api.Outcome{Err: api.ErrRunForm})
		}
	}
	// Bound where it stands, in all kids.
	wantValue(t, "(letrec ((x 1) (y x)) (letrec ((y y)) x))", "1", 6)
}

// The greatest that may be.
func TestTheGreatest(t *testing.T) {
	deep := number(1)
	for range (api.MaxWithin - 2) / 2 {
		deep = call(lam(nil, deep))
	}
	deep = seq(number(0), deep)
	wantOutcome(t, deep, "", 1000, outcome(api.OK, "1", "", 251))
	var wide []api.Expr
	for i := range api.MaxCore - 1 {
		wide = append(wide, number(i))
	}
	wantOutcome(t, seq(wide...), "", 10000, outcome(api.OK, "4094", "", 4096))
	// A scope of as many names as may be, and one from which all of them are far.
	for _, kind := range []int{api.ExpLet, api.ExpRec} {
		var l []string
		body := []api.Expr{number(0)}
		for i := range 1250 {
			l = append(l, "n"+strconv.Itoa(i))
			body = append(body, set(l[i], number(2*i)))
		}
		for i := range 12 {
			body = append(body, prim("write-u8", prim("quotient", ref(l[100*i]), number(10))))
		}
		e := seq(body...)
		for range 100 {
			e = binding(api.ExpLet, names("a"), number(7), e)
		}
		wantShown(t, binding(kind, l, append(wide[:1250:1250], e)...), "", "void", "\x00\x14\x28\x3c\x50\x64\x78\x8c\xa0\xb4\xc8\xdc")
	}
}

// Each of many variables has what it was bound to, with any number of them, and as they were bound.
func TestManyNames(t *testing.T) {
	for n := range 70 {
		var l []string
		var values []api.Expr
		sum := number(0)
		for i := range n {
			l = append(l, "n"+strconv.Itoa(i))
			values = append(values, number(i))
			sum = seq(prim("write-u8", ref(l[i])), sum)
		}
		output := ""
		for i := range n {
			output = string([]byte{byte(i)}) + output
		}
		for _, kind := range []int{api.ExpLet, api.ExpRec} {
			wantOutcome(t, binding(kind, l, append(values, sum)...), "", 1000, outcome(api.OK, "0", output, 2+4*n))
		}
	}
}

// Of a row of as many values as may be none is far, and each row that it grew out of is as it was.
func TestNoValueIsFar(t *testing.T) {
	rows := []*row{nil}
	for n := range api.MaxCore {
		rows = append(rows, rows[n].with(api.Val{Kind: api.ValInt, Int: n}))
	}
	for n, r := range rows {
		if r.count() != n || len(r.values()) != n {
			t.Fatal(n, r.count())
		}
		for at := 0; at < n; at += 1 + at/100 {
			hops := 0
			for x := r; x.size > at+1; hops++ {
				if x.jump.count() > at {
					x = x.jump
				} else {
					x = x.ahead
				}
			}
			if r.value(at).Int != at || hops > 40 {
				t.Fatalf("of %d the one at %d: %d, behind %d hops", n, at, r.value(at).Int, hops)
			}
		}
	}
}

// What a value shows, of OK alone.
func TestShown(t *testing.T) {
	for s, shown := range map[string]string{"(cons 1 (cons (lambda () 1) (cons (%box 1) '())))": "(1 procedure box)", "(cons (void) (cons (%unset) (read-u8)))": "(void unset . eof)", "(make-vector 3 (make-string 2 #\\a))": "#(\"aa\" \"aa\" \"aa\")", "(cons 'a (cons #\\b #f))": "(a #\\b . #f)"} {
		wantShown(t, of(s), "", shown, "")
	}
	for _, s := range []string{
		"(let ((x (cons 1 2))) (begin (set-cdr! x x) x))", "(let ((x (cons 1 2))) (begin (set-car! x x) x))", "(let ((x (make-vector 1 0))) (begin (vector-set! x 0 x) x))",
		"(make-vector 200 0)", "(letrec ((f (lambda (n) (if (= n 0) '() (cons n (f (- n 1))))))) (f 100))", "(letrec ((f (lambda (n) (if (= n 0) '() (cons (f (- n 1)) '()))))) (f 33))",
	} {
		e := of("(begin (write-u8 65) " + s + ")")
		wantOutcome(t, e, "", 5000, api.Outcome{Output: "A", Steps: Run(e, "", 5000).Steps})
	}
	if got := Run(of("(letrec ((f (lambda (n) (if (= n 0) '() (cons (f (- n 1)) '()))))) (f 32))"), "", 1000); !got.Whole || len(got.Shown.List) != 1 {
		t.Error(told(got))
	}
	if got := Run(of("(make-vector 199 0)"), "", 10); !got.Whole || len(got.Shown.List) != 199 {
		t.Error(told(got))
	}
}

// What is answered shares no memory with another answer, and nothing is kept.
func TestNothingIsKept(t *testing.T) {
	e := of("(begin (%wind! (cons (read-u8) (%winders))) (write-u8 65) (cons (%winders) (make-vector 2 'a)))")
	first := Run(e, "a", 100)
	was := told(first)
	second := Run(e, "a", 100)
	if told(second) != was || first.Steps == 0 {
		t.Error(was, told(second))
	}
	second.Shown.List[0] = api.Datum{}
	second.Shown.List = append(second.Shown.List[:1], api.Datum{Kind: 5})
	if told(first) != was || told(Run(e, "a", 100)) != was {
		t.Error(told(first), was)
	}
	// A run that had no steps left leaves nothing either.
	Run(e, "a", 7)
	if got := told(Run(e, "a", 100)); got != was {
		t.Error(got, was)
	}
}

// Calls in the place of a body's value need no room, and there is room for all that the steps can ask for.
func TestRoom(t *testing.T) {
	var wide []string
	many := []api.Expr{of("'()")}
	for i := range 3000 {
		wide = append(wide, "n"+strconv.Itoa(i))
		many = append(many, number(i))
	}
	again := func(kind int) api.Expr {
		e := of("(let ((k 0)) (k))")
		all := append(many[1:len(many):len(many)], of("(let ((k 0)) (%callcc (lambda (c) (begin (set! k c) 0))))").Kids[1], of("(let ((k 0)) (begin (lambda () 0) (k 0)))").Kids[1])
		e.Kids[1] = binding(kind, append(wide, "x"), all...)
		return e
	}
	deep := of("(letrec ((f (lambda () (f)))) (f))")
	deep.Kids[0].Kids[0] = binding(api.ExpRec, append(names("x"), wide...), append([]api.Expr{of("(letrec ((f 0)) (f))").Kids[1]}, append(many[1:], number(0))...)...)
	for name, e := range map[string]api.Expr{
		"a loop":                  of("(letrec ((f (lambda (x) (f x)))) (f 1))"),
		"a loop of all bodies":    of("(letrec ((f (lambda (x) (begin 1 (if x (let ((y x)) (letrec ((z y)) (fix ((g (lambda () (f z)))) (g)))) 2))))) (f 1))"),
		"a loop the other way":    of("(letrec ((f (lambda (x) (if x 1 (f x))))) (f #f))"),
		"a loop of continuations": of("(letrec ((f (lambda (x) (%callcc f)))) (f 1))"),
		"continuations":           of("(let ((k 0)) (begin (%callcc (lambda (c) (set! k c))) (k 1)))"),
		"deep":                    of("(letrec ((f (lambda (x) (+ 1 (f x))))) (f 1))"),
		"deep continuations":      of("(letrec ((f (lambda (x) (+ 1 (%callcc f))))) (f 1))"),
		"vectors":                 of("(letrec ((f (lambda (x) (begin (make-vector 1000 0) (f x))))) (f 1))"),
		"vectors that are kept":   of("(letrec ((f (lambda (x) (begin (vector-set! x 999 (make-vector 1000 x)) (f (vector-ref x 999)))))) (f (make-vector 1000 0)))"),
		"a wide let, again":       again(api.ExpLet),
		"a wide letrec, again":    again(api.ExpRec),
		"wide letrecs, deep":      deep,
	} {
		if core.Check(e) != api.OK {
			t.Fatal(name)
		}
		var was, is runtime.MemStats
		runtime.ReadMemStats(&was)
		wantOutcome(t, e, "", api.MaxSteps, outcome(api.ErrRunSteps, "", "", api.MaxSteps))
		runtime.ReadMemStats(&is)
		if room := is.TotalAlloc - was.TotalAlloc; room > 500<<20 {
			t.Errorf("%s: %d bytes", name, room)
		}
	}
}

// A loop of calls in the place of a body's value keeps nothing: what is in use does not grow with the steps.
func TestALoopKeepsNothing(t *testing.T) {
	e := placed(of("(letrec ((f (lambda (x) (begin 1 (if x (let ((y (+ x 1))) (f y)) 2))))) (f 1))"))
	inUse := func(steps int) uint64 {
		m := machine{World: world.New(""), procedures: map[int]procedure{}, steps: steps, now: &e}
		m.run()
		var is runtime.MemStats
		runtime.GC()
		runtime.ReadMemStats(&is)
		runtime.KeepAlive(m)
		return is.HeapAlloc
	}
	few, many := inUse(1000), inUse(api.MaxSteps)
	if many > few+(1<<20) {
		t.Errorf("%d bytes behind 1000 steps, %d behind %d", few, many, api.MaxSteps)
	}
}
