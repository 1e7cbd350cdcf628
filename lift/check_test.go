package lift

import (
	"math"
	"scrimshaw/api"
	"scrimshaw/core"
	"slices"
	"strconv"
	"strings"
	"testing"
)

// P14.1, and of P14.3 what holds of a program.

// good is a program, and what it is lowered.
var good = [][]string{
	{"5", "5"},
	{"(clo 0)", "(lambda () 1)", "() () 1"},
	{"(let ((x 1)) (clo 0 x))", "(let ((x 1)) (lambda (y) (lambda () (+ x y))))", "(y) (x) (clo 1 x y)", "() (x y) (+ x y)"},
	{"(clo 0)", "(lambda (a b c d e f) (a b c d e f))", "(a b c d e f) () (a b c d e f)"},
	{"(fix ((f (clo 0 g)) (g (clo 1 f))) (f g))", "(fix ((f (lambda () (g))) (g (lambda () (f)))) (f g))", "() (g) (g)", "() (f) (f)"},
	// Funs in another order than that in which they begin.
	{"(begin (clo 1) (clo 0))", "(begin (lambda () 2) (lambda () 1))", "() () 1", "() () 2"},
	{"(clo 0)", "(lambda () (begin (lambda () 3) (lambda () 2)))", "() () (begin (clo 2) (clo 1))", "() () 2", "() () 3"},
	{"(begin (clo 0) (clo 1))", "(begin (lambda () (lambda () 3)) (lambda () 2))", "() () (clo 2)", "() () 2", "() () 3"},
	// Frees in another order, or held in vain; also by a function within another one.
	{"(let ((x 1) (y 2)) (clo 0 y x))", "(let ((x 1) (y 2)) (lambda () (x y)))", "() (y x) (x y)"},
	{"(let ((x 1)) (clo 0 x))", "(let ((x 1)) (lambda () 5))", "() (x) 5"},
	{"(let ((x 1) (y 2)) (clo 0 x y))", "(let ((x 1) (y 2)) (lambda () (lambda () 5)))", "() (x y) (clo 1 y)", "() (y) 5"},
	{"(fix ((f (clo 0 f))) 5)", "(fix ((f (lambda () 5))) 5)", "() (f) 5"},
	// A name that stands for another one further in.
	{"(let ((x 1)) (clo 0 x))", "(let ((x 1)) (lambda () (let ((x x)) (lambda (x) x))))", "() (x) (let ((x x)) (clo 1))", "(x) () x"},
	{"(let ((x 1)) (let ((x (clo 0 x))) x))", "(let ((x 1)) (let ((x (lambda () x))) x))", "() (x) x"},
}

func TestGood(t *testing.T) {
	for _, s := range good {
		l := program(s[0], s[2:]...)
		if e := wantRight(t, l); !core.Equal(e, of(s[1])) {
			t.Errorf("Lower(%s): %s, want %s", textOfProgram(l), textOf(e), s[1])
		}
		if otherCheck(l) != api.OK {
			t.Error("the other way:", textOfProgram(l))
		}
	}
	if e := wantRight(t, api.Lifted{}); !core.Equal(e, api.Expr{}) {
		t.Error(textOf(e))
	}
	// Lists that are empty, but not nil.
	l := program("(clo 0)", "() () '()")
	l.Funs[0].Params, l.Funs[0].Frees, l.Main.Names, l.Main.Kids, l.Main.Const.List, l.Funs[0].Body.Const.List = []string{}, []string{}, []string{}, []api.Expr{}, []api.Datum{}, []api.Datum{}
	wantRight(t, l)
}

// wantForm is that a program is not lifted, though a good one that this hardly differs from is.
func wantForm(t *testing.T, main string, funs ...string) {
	t.Helper()
	l := program(main, funs...)
	if wrong := Check(l); wrong != api.ErrPassForm {
		t.Errorf("Check(%s): %v", textOfProgram(l), wrong)
	}
	if otherCheck(l) != api.ErrPassForm {
		t.Errorf("the other way: %s", textOfProgram(l))
	}
	wantWrong(t, l, api.ErrPassForm)
}

// Point 1 of the chapter.
func TestParamsAndFrees(t *testing.T) {
	wantForm(t, "(clo 0)", "(a b c d e f g) () 1")
	wantForm(t, "(clo 0)", "(a a) () 1")
	wantForm(t, "(clo 0)", "(a b c a) () a")
	wantForm(t, "(let ((x 1)) (clo 0 x x))", "() (x x) x")
	wantForm(t, "(let ((x 1) (y 2)) (clo 0 x y x))", "() (x y x) x")
	wantForm(t, "(let ((x 1) (y 2)) (clo 0 x))", "(x) (x) x")
	wantForm(t, "(let ((x 1) (y 2)) (clo 0 x y))", "(z y) (x y) x")
	wantForm(t, "(let ((x 1) (y 2)) (clo 0 x))", "(z) (x) (clo 1 z z)", "() (z z) z")
	for _, name := range []string{"", "5", "-5", ".", "a b", "(", "x\n", strings.Repeat("x", api.MaxName+1)} {
		l := program("(clo 0)", "(x) () 1")
		l.Funs[0].Params[0] = name
		wantWrong(t, l, api.ErrPassForm)
		l = program("(let ((x 1)) (clo 0 x))", "() (x) 1")
		l.Funs[0].Frees[0], l.Main.Kids[1].Names[0] = name, name
		wantWrong(t, l, api.ErrPassForm)
		l.Main.Names[0] = name
		wantWrong(t, l, api.ErrPassForm)
	}
	for _, name := range []string{"1+", "...", strings.Repeat("x", api.MaxName)} {
		l := program("(let ((x 1)) (clo 0 x))", "(y) (x) (clo 1 y)", "() (y) 1")
		l.Funs[0].Frees[0], l.Main.Kids[1].Names[0], l.Main.Names[0] = name, name, name
		wantRight(t, l)
		l = program("(clo 0)", "(x) () 1")
		l.Funs[0].Params[0] = name
		wantRight(t, l)
	}
}

func TestFreeNames(t *testing.T) {
	// Of Main.
	wantForm(t, "x")
	wantForm(t, "(clo 0 x)", "() (x) x")
	wantForm(t, "(clo 0 x)", "() (x) 1")
	wantForm(t, "(begin (let ((x 1)) (clo 0 x)) x)", "() (x) x")
	wantForm(t, "(begin (let ((x 1)) x) (clo 0 x))", "() (x) x")
	wantForm(t, "(let ((x 1) (y (clo 0 x))) 1)", "() (x) x")
	wantForm(t, "(let ((x (clo 0 x))) 1)", "() (x) x")
	wantForm(t, "(let ((x 1)) (begin (clo 0 x) y))", "() (x) x")
	// Of a Body.
	wantForm(t, "(let ((x 1)) (clo 0))", "() () x")
	wantForm(t, "(let ((x 1)) (begin x (clo 0)))", "(y) () (begin y x)")
	wantForm(t, "(let ((x 1) (y 2)) (clo 0 x))", "() (x) (begin x y)")
	wantForm(t, "(let ((x 1) (y 2)) (clo 0 x))", "(z) (x) (begin x (let ((y y)) z))")
	wantForm(t, "(let ((x 1)) (clo 0))", "(y) () (clo 1 x y)", "() (x y) (+ x y)")
	wantForm(t, "(let ((x 1)) (clo 0 x))", "(y) (x) (clo 1 x y)", "() (x y) (+ x z)")
	wantForm(t, "(clo 0)", "(y) () (begin (clo 1 y) (clo 2))", "() (y) y", "() () y")
	wantForm(t, "(fix ((f (clo 0))) f)", "() () f")
	wantForm(t, "(begin (fix ((f (clo 0 f))) f) f)", "() (f) f")
	wantForm(t, "(begin (fix ((f (clo 0 f))) f) (clo 1 f))", "() (f) f", "() (f) f")
}

// Point 2.
func TestClosures(t *testing.T) {
	for _, place := range []int{-1, 1, 2, math.MaxInt, math.MinInt, api.MaxCore} {
		l := program("(clo 0)", "() () 1")
		l.Main.Const.Int = place
		wantWrong(t, l, api.ErrPassForm)
	}
	wantForm(t, "(clo 0)")
	wantForm(t, "(begin (clo 0) (clo 1))", "() () 1")
	wantForm(t, "(begin (clo 0) (clo -1))", "() () 1")
	wantForm(t, "(let ((x 1) (y 2)) (clo 0 x y))", "() (y x) (x y)")
	wantForm(t, "(let ((x 1) (y 2)) (clo 0 x))", "() (x y) (x y)")
	wantForm(t, "(let ((x 1) (y 2)) (clo 0 x y))", "() (x) (x x)")
	wantForm(t, "(let ((x 1) (y 2)) (clo 0 y))", "() (x) (x x)")
	wantForm(t, "(let ((x 1) (y 2)) (clo 0))", "() (x) 1")
	wantForm(t, "(let ((x 1) (y 2)) (clo 0 x))", "() () 1")
	wantForm(t, "(let ((x 1)) (clo 0 x))", "(y) (x) (clo 1 y x)", "() (x y) (+ x y)")
	// What an ExpClo has not.
	for i, bend := range []func(e *api.Expr){
		func(e *api.Expr) { e.Name = "x" },
		func(e *api.Expr) { e.Name = "car" },
		func(e *api.Expr) { e.Kids = make([]api.Expr, 1) },
		func(e *api.Expr) { e.Kids = []api.Expr{ref("x")} },
		func(e *api.Expr) { e.Kids = []api.Expr{clo(0, "x")} },
		func(e *api.Expr) { e.Const.Kind = api.DatBool },
		func(e *api.Expr) { e.Const.Kind = api.DatChar },
		func(e *api.Expr) { e.Const.Kind = api.DatKinds },
		func(e *api.Expr) { e.Const.Kind = -1 },
		func(e *api.Expr) { e.Const.Text = "x" },
		func(e *api.Expr) { e.Const.List = make([]api.Datum, 1) },
		func(e *api.Expr) { e.Const = api.Datum{} },
		func(e *api.Expr) { e.Names = nil },
		func(e *api.Expr) { e.Names = []string{"y"} },
		func(e *api.Expr) { e.Names = []string{"x", "x"} },
		func(e *api.Expr) { e.Names = make([]string, 100000) },
	} {
		l := program("(let ((x 1)) (clo 0 x))", "(y) (x) (clo 1 x)", "() (x) x")
		wantRight(t, l)
		bend(&l.Main.Kids[1])
		wantWrong(t, l, api.ErrPassForm)
		if otherCheck(l) != api.ErrPassForm {
			t.Error("the other way:", i)
		}
		l = program("(let ((x 1)) (clo 0 x))", "(y) (x) (clo 1 x)", "() (x) x")
		bend(&l.Funs[0].Body)
		wantWrong(t, l, api.ErrPassForm)
	}
}

// Point 3.
func TestOneClosureEach(t *testing.T) {
	wantForm(t, "1", "() () 1")
	wantForm(t, "(clo 0)", "() () 1", "() () 2")
	wantForm(t, "(clo 1)", "() () 1", "() () 2")
	wantForm(t, "(begin (clo 0) (clo 0))", "() () 1")
	wantForm(t, "(begin (clo 0) (clo 1) (clo 0))", "() () 1", "() () 2")
	wantForm(t, "(begin (clo 0) (clo 1))", "() () (clo 1)", "() () 2")
	wantForm(t, "(begin (clo 0) (clo 1))", "() () (clo 2)", "() () (clo 2)", "() () 3")
	// In itself, behind it, and around.
	wantForm(t, "1", "() () (clo 0)")
	wantForm(t, "(clo 0)", "() () (clo 0)")
	wantForm(t, "(clo 0)", "() () (begin (clo 1) (clo 1))", "() () 1")
	wantForm(t, "(clo 1)", "() () 1", "() () (clo 0)")
	wantForm(t, "(clo 0)", "() () 1", "() () (clo 2)", "() () (clo 1)")
	wantForm(t, "1", "() () (clo 1)", "() () (clo 0)")
	wantForm(t, "(begin (clo 0) (clo 2))", "() () 0", "() () 1", "() () (clo 1)")
	wantForm(t, "(clo 0)", "() () (clo 1)", "() () (clo 2)", "() () (clo 0)")
}

// What is no lifted expression; and point 4.
func TestKinds(t *testing.T) {
	for _, s := range []string{"(lambda () 1)", "(lambda (x) x)", "(letrec () 1)", "(letrec ((x 1)) x)", "(let ((x 1)) (set! x 2))", "(fix ((f (lambda () 1))) f)", "(fix ((f 1)) 2)", "(fix ((f f)) 2)", "(fix ((f (let () (clo 1)))) f)", "(fix () 1)", "(if 1 2)", "(car)", "(begin 1)", "(let ((x 1) (x 2)) 3)", "'(1)", "(1 2 3 4 5 6 7 8)"} {
		for _, shape := range []string{"S", "(begin 1 S)", "(if 1 S 2)", "(S)", "(car S)", "(let ((y S)) 1)", "(let () S)", "(fix ((g (clo 2))) S)"} {
			s := strings.ReplaceAll(shape, "S", s)
			funs := []string{"() () 1"}
			if strings.Contains(s, "(clo 1)") || strings.Contains(s, "(clo 2)") {
				funs = append(funs, "() () 1")
			}
			if strings.Contains(s, "(clo 2)") {
				funs = append(funs, "() () 1")
			}
			wantForm(t, "(begin (clo 0) "+s+")", funs...)
			funs[0] = "() () " + s
			wantForm(t, "(clo 0)", funs...)
		}
	}
	for i, e := range mayNotBe() {
		l := program("(begin (clo 0) (clo 1))", "() () 1", "() () 1")
		l.Main.Kids = append(l.Main.Kids, e)
		wantWrong(t, l, api.ErrPassForm)
		for at := range 2 {
			l = program("(begin (clo 0) (clo 1))", "() () 1", "() () 1")
			l.Funs[at].Body = e
			wantWrong(t, l, api.ErrPassForm)
			l.Funs[at].Body = kind(api.ExpIf, of("1"), of("2"), e)
			wantWrong(t, l, api.ErrPassForm)
			if got := otherCheck(l); got != api.ErrPassForm {
				t.Error("the other way:", i, got)
			}
		}
	}
}

// withFuns is a program of so many Funs, with rest behind their closures in Main.
func withFuns(n int, rest ...api.Expr) api.Lifted {
	l := api.Lifted{Main: kind(api.ExpSeq)}
	for i := range n {
		l.Main.Kids = append(l.Main.Kids, clo(i))
		l.Funs = append(l.Funs, api.Fun{Body: of("1")})
	}
	l.Main.Kids = append(l.Main.Kids, rest...)
	return l
}

func TestHowMany(t *testing.T) {
	want := func(l api.Lifted, want api.Errno) {
		t.Helper()
		if want == api.OK {
			wantRight(t, l)
		} else {
			wantWrong(t, l, want)
		}
		if got := otherCheck(l); got != want {
			t.Errorf("the other way: %v, want %v", got, want)
		}
	}
	// 2047 closures, as many Bodies, and the ExpSeq.
	want(withFuns(2047, of("1")), api.OK)
	want(withFuns(2047, of("1"), of("1")), api.ErrPassMany)
	want(withFuns(2046, of("(car 1)"), of("1")), api.OK)
	want(withFuns(2046, of("(car 1)"), of("(car 1)")), api.ErrPassMany)
	want(api.Lifted{Main: kind(api.ExpSeq, make([]api.Expr, api.MaxCore-1)...)}, api.OK)
	want(api.Lifted{Main: kind(api.ExpSeq, make([]api.Expr, api.MaxCore)...)}, api.ErrPassMany)
	l := program("(clo 0)", "() () 1")
	l.Funs[0].Body = kind(api.ExpSeq, make([]api.Expr, api.MaxCore-2)...)
	want(l, api.OK)
	l.Funs[0].Body = kind(api.ExpSeq, make([]api.Expr, api.MaxCore-1)...)
	want(l, api.ErrPassMany)
	// Whatever is wrong besides.
	want(api.Lifted{Main: kind(-1, make([]api.Expr, api.MaxCore-1)...)}, api.ErrPassForm)
	want(api.Lifted{Main: kind(-1, make([]api.Expr, api.MaxCore)...)}, api.ErrPassMany)
	want(api.Lifted{Main: kind(api.ExpClo, make([]api.Expr, api.MaxCore)...)}, api.ErrPassMany)
	want(api.Lifted{Main: ref("x"), Funs: make([]api.Fun, api.MaxCore-1)}, api.ErrPassForm)
	want(api.Lifted{Main: ref("x"), Funs: make([]api.Fun, api.MaxCore)}, api.ErrPassMany)
	want(api.Lifted{Main: of("1"), Funs: make([]api.Fun, api.MaxCore+1)}, api.ErrPassMany)
	l = withFuns(2047, of("(lambda () 1)"))
	want(l, api.ErrPassMany)
	l = withFuns(2045, of("(lambda () 1)"))
	want(l, api.ErrPassForm)
	for _, e := range []api.Expr{looped(), wide()} {
		want(api.Lifted{Main: e}, api.ErrPassMany)
		l = program("(clo 0)", "() () 1", "(x x) (y y) 1")
		l.Funs[1].Body = kind(-1, e)
		want(l, api.ErrPassMany)
	}
}

func TestHowDeep(t *testing.T) {
	for within, want := range map[int]api.Errno{api.MaxWithin: api.OK, api.MaxWithin + 1: api.ErrPassMany, 2 * api.MaxWithin: api.ErrPassMany} {
		l := api.Lifted{Main: deep(within-1, of("1"))}
		if got := Check(l); got != want || otherCheck(l) != want {
			t.Error(within, got)
		}
	}
	// In one of them there may be 250, but in all of them when it is lowered as well: ErrPassForm.
	for _, x := range []struct {
		main, first, second int
		want                api.Errno
	}{
		{100, 100, 50, api.OK}, {100, 100, 51, api.ErrPassForm}, {1, 1, 248, api.OK}, {1, 1, 249, api.ErrPassForm}, {1, 1, 250, api.ErrPassForm}, {1, 1, 251, api.ErrPassMany},
		{248, 1, 1, api.OK}, {249, 1, 1, api.ErrPassForm}, {250, 250, 250, api.ErrPassForm}, {251, 1, 1, api.ErrPassMany}, {1, 251, 1, api.ErrPassMany}, {1, 248, 1, api.OK}, {1, 249, 1, api.ErrPassForm},
	} {
		l := program("1", "() () 1", "() () 1")
		l.Main, l.Funs[0].Body, l.Funs[1].Body = deep(x.main-1, clo(0)), deep(x.first-1, clo(1)), deep(x.second-1, of("1"))
		if got := Check(l); got != x.want || otherCheck(l) != x.want {
			t.Error(x, got, otherCheck(l))
		}
		if x.want == api.OK {
			wantRight(t, l)
		} else {
			wantWrong(t, l, x.want)
		}
	}
	// As many within one another as there may be expressions.
	l := api.Lifted{Main: clo(0)}
	for i := range api.MaxCore / 2 {
		l.Funs = append(l.Funs, api.Fun{Body: clo(i + 1)})
	}
	l.Funs[len(l.Funs)-1].Body = of("1")
	wantWrong(t, l, api.ErrPassForm)
	l.Funs = l.Funs[:api.MaxWithin-1]
	l.Funs[len(l.Funs)-1].Body = of("1")
	wantRight(t, l)
}

// Lists of names that are the same memory each time, and too long to be gone over, or laid anew, for each place.
func TestLongNames(t *testing.T) {
	same, different := make([]string, 1000000), make([]string, 1000000)
	for i := range same {
		same[i], different[i] = "x", "x"+strconv.Itoa(i)
	}
	for _, names := range [][]string{same, different, make([]string, 1000000)} {
		l := withFuns(2000)
		l.Main = api.Expr{Kind: api.ExpLet, Names: []string{"x"}, Kids: []api.Expr{of("1"), l.Main}}
		for i := range l.Funs {
			l.Main.Kids[1].Kids[i].Names, l.Funs[i].Frees = names, names
		}
		wantWrong(t, l, api.ErrPassForm)
		l = withFuns(2000)
		for i := range l.Funs {
			l.Funs[i].Params = names
		}
		wantWrong(t, l, api.ErrPassForm)
		l = withFuns(10)
		for range 2000 {
			l.Main.Kids = append(l.Main.Kids, api.Expr{Kind: api.ExpLet, Names: names, Kids: make([]api.Expr, 1)})
		}
		wantWrong(t, l, api.ErrPassForm)
	}
	// So it is with what a constant has.
	l, constant := withFuns(10), api.Expr{Const: api.Datum{Kind: api.DatList, List: make([]api.Datum, 1000000)}}
	for range 2000 {
		l.Main.Kids = append(l.Main.Kids, constant)
	}
	wantWrong(t, l, api.ErrPassForm)
}

// More names are held than there may be expressions: parameters take none.
func TestManyHeld(t *testing.T) {
	l := api.Lifted{Main: api.Expr{Kind: api.ExpLet}}
	var bound []string
	for i := range 3500 {
		bound = append(bound, "x"+strconv.Itoa(i))
		l.Main.Kids = append(l.Main.Kids, api.Expr{})
	}
	l.Main.Names = slices.Clone(bound)
	l.Main.Kids = append(l.Main.Kids, clo(0, bound...))
	for i := range 240 {
		f := api.Fun{Frees: slices.Clone(bound)}
		for j := range api.MaxParams {
			f.Params = append(f.Params, "p"+strconv.Itoa(i)+"."+strconv.Itoa(j))
		}
		bound = append(bound, f.Params...)
		f.Body = clo(i+1, bound...)
		l.Funs = append(l.Funs, f)
	}
	l.Funs[239].Body = ref(bound[len(bound)-1])
	wantRight(t, l)
	l.Funs[239].Body = ref("y")
	wantWrong(t, l, api.ErrPassForm)
}
