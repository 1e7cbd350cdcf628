package flow

import (
	"scrimshaw/api"
	"scrimshaw/vm"
	"slices"
	"strings"
	"testing"
)

// wantText is the code of a program by which no number of registers, and no order of blocks, is promised; what is fixed here is a way.
func wantText(t *testing.T, l api.Lifted, want ...string) {
	t.Helper()
	if got := textOfCode(wantFlow(t, l)); got != strings.Join(want, "\n") {
		t.Errorf("%s:\n%s\nwant\n%s", textOfProgram(l), got, strings.Join(want, "\n"))
	}
}

func TestExamples(t *testing.T) {
	wantText(t, program("(+ 1 2)"), "0 0 3: 1=const[1] 2=const[2] 0=+[1 2] return 0;")
	wantText(t, program("((clo 0) 1 (clo 1) (clo 2))", "(x f g) () (if x (f) (g))", "() () 5", "() () 6"),
		"0 0 4: 0=closure[1] 1=const[1] 2=closure[2] 3=closure[3] tail 0 [1 2 3];",
		"3 0 3: if 0 1 2; tail 1 []; tail 2 [];",
		"0 0 1: 0=const[5] return 0;",
		"0 0 1: 0=const[6] return 0;")
}

func TestBlocks(t *testing.T) {
	// A branch ends in one block with the other one, with the value in one register.
	wantText(t, program("(let ((x 1)) (cons (if x x 2) 3))"),
		"0 0 4: 0=const[1] if 0 1 2; 2=move[0] jump 3; 2=const[2] jump 3; 3=const[3] 1=cons[2 3] return 1;")
	// One within another one.
	wantText(t, program("(let ((x (if 1 (if 2 3 4) (if 5 6 7)))) x)"),
		"0 0 2: 1=const[1] if 1 1 5; 1=const[2] if 1 2 3; 0=const[3] jump 4; 0=const[4] jump 4; jump 9; 1=const[5] if 1 6 7; 0=const[6] jump 8; 0=const[7] jump 8; jump 9; return 0;")
	// A call that is none of those at the end.
	wantText(t, program("(let ((x ((clo 0)))) (begin (%callcc (clo 1)) x))", "() () 5", "(k) () (k 7)"),
		"0 0 3: 1=closure[1] 0=call 1 [] 1; 2=closure[2] 1=callcc 2 2; return 0;",
		"0 0 1: 0=const[5] return 0;",
		"1 0 2: 1=const[7] tail 0 [1];")
	// Closures that hold one another, and what is there already.
	wantText(t, program("(let ((x 1)) (fix ((f (clo 0 f g x)) (g (clo 1 f x g))) (f 1)))", "(y) (f g x) (g f)", "(h) (f x g) (begin g x)"),
		"0 0 4: 0=const[1] 1=%unset[] 1=closure[1 1 1 0] 2=closure[2 1 0 1] tie[0 1 1] tie[1 1 2] tie[2 2 2] 3=const[1] tail 1 [3];",
		"1 3 3: 1=held[1] 2=held[0] tail 1 [2];",
		"1 3 2: 1=held[2] 1=held[1] return 1;")
	// No closure is held that is not made yet.
	wantText(t, program("(fix ((f (clo 0)) (g (clo 1 f))) (g))", "() () 5", "() (f) (f)"),
		"0 0 2: 0=closure[1] 1=closure[2 0] tail 1 [];",
		"0 0 1: 0=const[5] return 0;",
		"0 1 1: 0=held[0] tail 0 [];")
}

// What each kind means, at the end and where something is behind it.
func TestKinds(t *testing.T) {
	for source, want := range map[string]string{
		"5": "5", "#f": "#f", "'a": "a", "'()": "()", "#\\a": "#\\a", "-1152921504606846976": "-1152921504606846976",
		"(void)":                            "void",
		"(%unset)":                          "unset",
		"(clo 0)":                           "procedure",
		"(let ((x 5)) x)":                   "5",
		"(let () 5)":                        "5",
		"(let ((x 5) (y x0)) (cons x y))":   "(5 . 7)",
		"(let ((x0 5) (y x0)) (cons x0 y))": "(5 . 7)",
		"(let ((y x0)) (let ((x0 y)) (let ((y 1)) (cons x0 y))))": "(7 . 1)",
		"(begin 1 2 3)":                                "3",
		"(begin x0 ((clo 0)) (begin 1 x0))":            "7",
		"(if #f 1 2)":                                  "2",
		"(if '() 1 2)":                                 "1",
		"(if (null? '()) (begin 1 x0) 2)":              "7",
		"(if (if #f 1 #f) 2 (if 3 4 5))":               "4",
		"((clo 0))":                                    "5",
		"(let ((x ((clo 0)))) x)":                      "5",
		"(let ((f (clo 0))) (cons (f) (cons x0 (f))))": "(5 7 . 5)",
		"(vector-set! (make-vector 2 0) 1 x0)":         "void",
	} {
		for _, around := range []string{"?", "(cons ? x0)", "(begin ? x0)", "(let ((z ?)) z)", "(let ((z 1)) ?)", "(if ? ? 9)", "(if #f 9 ?)", "(cons 1 (if ? (begin 2 ?) 9))", "(begin ? (cons ? (cons 3 ?)))"} {
			source := strings.ReplaceAll(around, "?", source)
			closures := strings.Count(source, "(clo 0)")
			for i := range closures {
				source = strings.Replace(source, "(clo 0)", "(clo "+string(rune('0'+i))+" x1)", 1)
			}
			l := program("(let ((x0 7) (x1 5)) "+source+")", slices.Repeat([]string{"() (x1) x1"}, closures)...)
			wantFlow(t, l)
			if around == "?" {
				wantRun(t, l, "", "0 \"\" "+shown(want))
			}
		}
	}
}

// shown is the end of what is told of a value.
func shown(s string) string {
	if s == "procedure" || s == "void" || s == "unset" {
		return s + " true"
	}
	return textOf(api.Expr{Const: dataOf(s, 1)[0]})[1:] + " true"
}

// What is called at the end, and what is not.
func TestEnds(t *testing.T) {
	for source, want := range map[string]ends{
		"5":                                   {0, 0},
		"(f)":                                 {1, 0},
		"(f (f) (f))":                         {1, 0},
		"((f))":                               {1, 0},
		"(%callcc f)":                         {0, 1},
		"(%callcc (%callcc f))":               {0, 1},
		"(%callcc (f))":                       {0, 1},
		"(f (%callcc f))":                     {1, 0},
		"(car (f))":                           {0, 0},
		"(car (%callcc f))":                   {0, 0},
		"(begin (f) (f))":                     {1, 0},
		"(begin (f) (%callcc f) 1)":           {0, 0},
		"(begin (f) (begin (%callcc f) (f)))": {1, 0},
		"(begin (begin (f) (f)) (%callcc f))": {0, 1},
		"(if (f) (f) (f))":                    {2, 0},
		"(if (%callcc f) 1 (f))":              {1, 0},
		"(if (if (f) (f) (f)) (%callcc f) (if 1 (f) (%callcc f)))": {1, 2},
		"(if #t 1 (f))":                         {1, 0},
		"(let ((x (f))) x)":                     {0, 0},
		"(let ((x (f)) (y (%callcc f))) (f x))": {1, 0},
		"(let () (%callcc f))":                  {0, 1},
		"(let ((x (if 1 (f) (f)))) (if x (f) (let ((y (f))) (f))))":   {2, 0},
		"(fix ((g (clo 1 f))) (g))":                                   {1, 0},
		"(fix ((g (clo 1 f))) (begin (g) (%callcc g)))":               {0, 1},
		"(car (fix ((g (clo 1 f))) (g)))":                             {0, 0},
		"(cons (if 1 (f) (%callcc f)) (let ((x (f))) (%callcc f)))":   {0, 0},
		"(begin (if 1 (f) (f)) (let ((x 1)) (begin 2 (if 3 (f) x))))": {1, 0},
	} {
		funs := []string{"(f) () " + source}
		if strings.Contains(source, "clo 1") {
			funs = append(funs, "() (f) (f)")
		}
		c := wantFlow(t, program("((clo 0) 5)", funs...))
		if got := endsIn(c.Procs[1]); got != want {
			t.Errorf("%s: %v, want %v", source, got, want)
		}
		// The same as Main, but f.
		main := program("(let ((f 5)) " + strings.ReplaceAll(source, "clo 1", "clo 0") + ")")
		for _, s := range funs[1:] {
			main.Funs = append(main.Funs, program("1", s).Funs...)
		}
		if got := endsIn(wantFlow(t, main).Procs[0]); got != want {
			t.Errorf("%s in Main: %v, want %v", source, got, want)
		}
	}
}

// What a program writes tells in which order its parts are done.
func TestOrder(t *testing.T) {
	say := func(n string) string { return "(begin (write-u8 " + n + ") " + n + ")" }
	a, b, c := say("65"), say("66"), say("67")
	for source, want := range map[string]string{
		"(cons " + a + " (cons " + b + " " + c + "))":                          `0 "ABC" (65 66 . 67) true`,
		"(cons (cons " + a + " " + b + ") " + c + ")":                          `0 "ABC" ((65 . 66) . 67) true`,
		"(let ((x " + a + ") (y " + b + ")) (cons y " + c + "))":               `0 "ABC" (66 . 67) true`,
		"((begin " + a + " (clo 0)) " + b + " " + c + ")":                      `0 "ABC" (66 . 67) true`,
		"(cons 1 ((begin " + a + " (clo 0)) " + b + " " + c + "))":             `0 "ABC" (1 66 . 67) true`,
		"(" + a + " " + b + " " + c + ")":                                      `90 "ABC" #f false`,
		"(vector-set! " + a + " " + b + " " + c + ")":                          `80 "ABC" #f false`,
		"(if " + a + " " + b + " " + c + ")":                                   `0 "AB" 66 true`,
		"(cons (if (begin " + a + " #f) " + b + " " + c + ") " + a + ")":       `0 "ACA" (67 . 65) true`,
		"(begin " + a + " (car " + b + ") " + c + ")":                          `80 "AB" #f false`,
		"(begin " + a + " (error) " + b + ")":                                  `92 "A" #f false`,
		"(begin " + a + " ((clo 0) " + b + ") " + c + ")":                      `91 "AB" #f false`,
		"(begin " + a + " ((clo 0) " + b + " (read-u8)) (write-u8 (read-u8)))": `0 "ABy" void true`,
	} {
		l := program(source)
		if strings.Contains(source, "clo 0") {
			l = program(source, "(x y) () (cons x y)")
		}
		wantRun(t, l, "xyz", want)
	}
}

// Continuations that are gone back to find what was bound, and reckoned, as it was.
func TestBack(t *testing.T) {
	for source, want := range map[string]string{
		"(+ 1 (%callcc (lambda (k) (* 2 (k 5)))))": "6 true",
		"(let ((b (%box 0))) (let ((k (%callcc (lambda (k) k)))) (let ((n (+ (%unbox b) 1))) (begin (%set-box! b n) (if (< n 5) (k k) n)))))":                                                                    "5 true",
		"(let ((l (%box '())) (k (%box 0))) (let ((x (+ 10 (%callcc (lambda (c) (begin (%set-box! k c) 0)))))) (begin (%set-box! l (cons x (%unbox l))) (if (< x 13) ((%unbox k) (+ 1 (- x 10))) (%unbox l)))))": "(13 12 11 10) true",
		// What stood in registers when it was caught stands there again, though they were filled since.
		"(let ((k (%box 0)) (n (%box 0))) (let ((p (cons (if (read-u8) 1 2) (%callcc (lambda (c) (begin (%set-box! k c) 3)))))) (let ((a (cons 4 5)) (b (cons 6 7))) (begin (%set-box! n (+ 1 (%unbox n))) (if (< (%unbox n) 3) ((%unbox k) (cons a b)) p)))))": "(1 (4 . 5) 6 . 7) true",
		"(%callcc (lambda (k) (let ((f (lambda (x) (k x)))) (cons 1 (f 2)))))": "2 true",
		"((%callcc (lambda (k) k)) (lambda (x) 5))":                            "5 true",
	} {
		wantRun(t, lifted(of(source)), "x", `0 "" `+want)
	}
}

// Of each closure the values are those of Frees, in order, those too that nobody wants.
func TestHolds(t *testing.T) {
	// Names in another order, some of them in vain, bound in each way; and such that hide others.
	l := program("(let ((d 1) (c 2) (b 3)) (let ((c 4) (a d)) ((clo 0 c a d b) 5 (if a 6 7))))",
		"(p q) (c a d b) (let ((a (cons a q))) (fix ((f (clo 1 q g a c f)) (g (clo 2 f b p g))) (f p)))",
		"(q0) (q g a c f) (let ((g q)) g)",
		"() (f b p g) p")
	wantHolds(t, l, 0, "4", "1", "1", "3")
	wantHolds(t, l, 1, "6", "procedure", "(1 . 6)", "4", "procedure")
	wantRun(t, l, "", `0 "" 6 true`)
	l.Funs[0].Body.Kids[1].Kids[2] = of("(g)")
	wantHolds(t, l, 2, "procedure", "3", "5", "procedure")
	wantRun(t, l, "", `0 "" 5 true`)
	// Which one of those that are bound to each other is held: each tells which it is.
	for at, want := range []string{"(1 . 4)", "(2 . 5)", "(3 . 6)", "(1 . 4)"} {
		body := "(cons ((car l)) ((cdr l)))"
		l := program("(fix ((a (clo 0 c)) (b (clo 1 a b)) (c (clo 2 b a c)) (d (clo 3 c d a b))) (d))",
			"() (c) 1", "() (a b) 2", "() (b a c) 3",
			"() (c d a b) "+[]string{"a", "b", "c", "a"}[at])
		if at == 3 {
			l.Funs[3].Body = of("(let ((l (cons a b))) " + body + ")")
			want = "(1 . 2)"
		} else {
			l.Funs[3].Body = kind(api.ExpCall, l.Funs[3].Body)
			want = want[1:2]
		}
		wantRun(t, l, "", `0 "" `+want+` true`)
	}
}

// wantHolds is what the closures of a Fun hold, when its Body is done for the first time and ends the run. Its code is laid aside for one that tells a place.
func wantHolds(t *testing.T, l api.Lifted, fun int, want ...string) {
	t.Helper()
	c := wantFlow(t, l)
	for place, shows := range want {
		tells := api.Block{Ins: []api.Ins{{Op: "held", Num: place}}, End: api.End{}}
		tells.End.Kind = api.EndReturn
		was := c.Procs[fun+1]
		c.Procs[fun+1].Blocks, c.Procs[fun+1].Regs = []api.Block{tells}, max(was.Regs, 1)
		if got := told(vm.Run(c, "", enough)); got != `0 "" `+shown(shows) {
			t.Errorf("%s: the function %d holds %s at %d, want %s", textOfProgram(l), fun, got, place, shows)
		}
		c.Procs[fun+1] = was
	}
}

// A loop of calls at the end needs no frames: none of its functions has a call that needs one.
func TestLoop(t *testing.T) {
	for _, source := range []string{
		"(fix ((f (lambda (n) (if (= n 0) 'done (f (- n 1)))))) (f 60000))",
		"(fix ((f (lambda (n) (if (= n 0) 'done (let ((m (- n 1))) (begin (void) (g m)))))) (g (lambda (m) (fix ((h (lambda (x) (f x)))) (if (= m 0) 'done (h m)))))) (f 30000))",
		"(fix ((f (lambda (n k) (if (= n 0) 'done (%callcc (lambda (c) (f (- n 1) c))))))) (f 40000 0))",
	} {
		l := lifted(of(source))
		c := wantFlow(t, l)
		for _, p := range c.Procs {
			for _, b := range p.Blocks {
				if b.End.Kind == api.EndCall || b.End.Kind == api.EndCallCC {
					t.Errorf("%s: a frame:\n%s", source, textOfCode(c))
				}
			}
		}
		if got := told(vm.Run(c, "", api.MaxSteps)); got != `0 "" done true` {
			t.Errorf("%s: %s", source, got)
		}
	}
}
