package expand

import (
	"scrimshaw/api"
	"strconv"
	"strings"
	"testing"
)

// What comes of a program is run here, so that the prelude and the forms are seen to mean what they do in Scheme: expressions are evaluated with what is still to be done handed on.

type (
	todo   func(value any) step
	step   func() step
	pair   struct{ car, cdr any }
	vec    struct{ items []any }
	str    struct{ bytes []byte }
	cell   struct{ value any }
	call   func(args []any, k todo) step
	symbol string
	letter byte
	sign   string // (), and what is no datum
)

const (
	null  = sign("()")
	void  = sign("void")
	eof   = sign("eof")
	unset = sign("unset")
)

type names struct {
	up    *names
	bound map[string]*cell
}

func (n *names) of(name string) *cell {
	for n.bound[name] == nil {
		n = n.up
	}
	return n.bound[name]
}

func (n *names) with(l []string, values []any) *names {
	out := &names{n, map[string]*cell{}}
	for i, name := range l {
		out.bound[name] = &cell{values[i]}
	}
	return out
}

type machine struct {
	input, output string
	winders       any
}

func (m *machine) eval(e api.Expr, n *names, k todo) step {
	switch e.Kind {
	case api.ExpQuote:
		return k(constantValue(e.Const))
	case api.ExpRef:
		return k(n.of(e.Name).value)
	case api.ExpSet:
		return func() step {
			return m.eval(e.Kids[0], n, func(v any) step {
				n.of(e.Name).value = v
				return k(void)
			})
		}
	case api.ExpIf:
		return func() step {
			return m.eval(e.Kids[0], n, func(v any) step {
				if v == false {
					return m.eval(e.Kids[2], n, k)
				}
				return m.eval(e.Kids[1], n, k)
			})
		}
	case api.ExpLam:
		return k(&cell{call(func(args []any, k todo) step {
			if len(args) != len(e.Names) {
				panic("count")
			}
			return m.eval(e.Kids[0], n.with(e.Names, args), k)
		})})
	case api.ExpRec:
		inner := n.with(e.Names, make([]any, len(e.Names)))
		return m.evalRec(e, inner, 0, true, k)
	}
	return m.evalAll(e.Kids[:len(e.Kids)-tailOf(e)], n, nil, func(values []any) step {
		switch e.Kind {
		case api.ExpSeq:
			return k(values[len(values)-1])
		case api.ExpCall:
			return apply(values[0], values[1:], k)
		case api.ExpLet:
			return m.eval(e.Kids[len(e.Names)], n.with(e.Names, values), k)
		}
		if e.Name == "%callcc" {
			return apply(values[0], []any{&cell{call(func(args []any, _ todo) step { return k(args[0]) })}}, k)
		}
		return k(m.prim(e.Name, values))
	})
}

// tailOf is how many of the kids are evaluated behind all others, with more names.
func tailOf(e api.Expr) int {
	if e.Kind == api.ExpLet {
		return 1
	}
	return 0
}

func apply(f any, args []any, k todo) step {
	c, is := f.(*cell)
	if !is {
		panic("proc")
	}
	return func() step { return c.value.(call)(args, k) }
}

// evalAll hands on the values of all kids; each time it is come to anew they are another row.
func (m *machine) evalAll(l []api.Expr, n *names, values []any, k func([]any) step) step {
	if len(l) == 0 {
		return func() step { return k(values) }
	}
	return m.eval(l[0], n, func(v any) step {
		return m.evalAll(l[1:], n, append(append([]any{}, values...), v), k)
	})
}

// evalRec binds the functions first, and then the others.
func (m *machine) evalRec(e api.Expr, n *names, i int, functions bool, k todo) step {
	if i == len(e.Names) && functions {
		return m.evalRec(e, n, 0, false, k)
	}
	if i == len(e.Names) {
		return m.eval(e.Kids[i], n, k)
	}
	if (e.Kids[i].Kind == api.ExpLam) != functions {
		return m.evalRec(e, n, i+1, functions, k)
	}
	return m.eval(e.Kids[i], n, func(v any) step {
		n.bound[e.Names[i]].value = v
		return m.evalRec(e, n, i+1, functions, k)
	})
}

func constantValue(d api.Datum) any {
	switch d.Kind {
	case api.DatBool:
		return d.Int == 1
	case api.DatInt:
		return d.Int
	case api.DatChar:
		return letter(d.Int)
	case api.DatSymbol:
		return symbol(d.Text)
	}
	return null
}

func (m *machine) prim(name string, v []any) any {
	switch name {
	case "read-u8":
		if m.input == "" {
			return eof
		}
		b := m.input[0]
		m.input = m.input[1:]
		return int(b)
	case "write-u8":
		m.output += string([]byte{byte(v[0].(int))})
		return void
	case "error":
		panic("user")
	case "void":
		return void
	case "%winders":
		return m.winders
	case "%wind!":
		m.winders = v[0]
		return void
	case "%unset":
		return unset
	case "car":
		return v[0].(*pair).car
	case "cdr":
		return v[0].(*pair).cdr
	case "cons":
		return &pair{v[0], v[1]}
	case "set-car!":
		v[0].(*pair).car = v[1]
		return void
	case "eq?":
		return v[0] == v[1]
	}
	return otherPrim(name, v)
}

func otherPrim(name string, v []any) any {
	is := false
	switch name {
	case "null?":
		return v[0] == null
	case "pair?":
		_, is = v[0].(*pair)
		return is
	case "vector?":
		_, is = v[0].(*vec)
		return is
	case "string?":
		_, is = v[0].(*str)
		return is
	case "procedure?":
		_, is = v[0].(*cell)
		return is
	case "eof-object?":
		return v[0] == eof
	case "vector-length":
		return len(v[0].(*vec).items)
	case "string-length":
		return len(v[0].(*str).bytes)
	case "+":
		return v[0].(int) + v[1].(int)
	case "-":
		return v[0].(int) - v[1].(int)
	case "*":
		return v[0].(int) * v[1].(int)
	case "<":
		return v[0].(int) < v[1].(int)
	case "=":
		return v[0].(int) == v[1].(int)
	case "make-vector":
		items := make([]any, v[0].(int))
		for i := range items {
			items[i] = v[1]
		}
		return &vec{items}
	case "make-string":
		return &str{make([]byte, v[0].(int))}
	case "vector-ref":
		return v[0].(*vec).items[v[1].(int)]
	case "string-ref":
		return letter(v[0].(*str).bytes[v[1].(int)])
	case "vector-set!":
		v[0].(*vec).items[v[1].(int)] = v[2]
		return void
	case "string-set!":
		v[0].(*str).bytes[v[1].(int)] = byte(v[2].(letter))
		return void
	}
	panic("no such primitive: " + name)
}

// shown is a value for a test's eye.
func shown(v any) string {
	switch x := v.(type) {
	case bool:
		if x {
			return "#t"
		}
		return "#f"
	case int:
		return strconv.Itoa(x)
	case letter:
		return "#\\" + string([]byte{byte(x)})
	case symbol:
		return string(x)
	case sign:
		return string(x)
	case *str:
		return strconv.Quote(string(x.bytes))
	case *vec:
		var l []string
		for _, item := range x.items {
			l = append(l, shown(item))
		}
		return "#(" + strings.Join(l, " ") + ")"
	case *pair:
		out := "(" + shown(x.car)
		for {
			rest, is := x.cdr.(*pair)
			if !is {
				break
			}
			x = rest
			out += " " + shown(x.car)
		}
		if x.cdr != null {
			out += " . " + shown(x.cdr)
		}
		return out + ")"
	}
	return "procedure"
}

// run tells what a program's value shows and what it wrote.
func run(t *testing.T, source, input string) (value, output string) {
	t.Helper()
	e, _, wrong := Program(of(source), api.MaxFuel)
	if wrong != api.OK {
		t.Errorf("%s: %v", source, wrong)
		return "", ""
	}
	m := &machine{input: input, winders: null}
	defer func() {
		if p := recover(); p != nil {
			text, is := p.(string)
			if !is {
				text = "type"
			}
			value, output = text, m.output
		}
	}()
	var last any
	next := m.eval(e, nil, func(v any) step {
		last = v
		return nil
	})
	for next != nil {
		next = next()
	}
	return shown(last), m.output
}

func wantRun(t *testing.T, source, value string) {
	t.Helper()
	if got, output := run(t, source, ""); got != value || output != "" {
		t.Errorf("%s: %s, %q; want %s", source, got, output, value)
	}
}

func wantOutput(t *testing.T, source, input, value, output string) {
	t.Helper()
	if got, wrote := run(t, source, input); got != value || wrote != output {
		t.Errorf("%s: %s, %q; want %s, %q", source, got, wrote, value, output)
	}
}

// The examples of the whole program.
func TestRuns(t *testing.T) {
	wantRun(t, "(+ 1 2)", "3")
	wantRun(t, "(define (fact n) (if (< n 2) 1 (* n (fact (- n 1))))) (fact 12)", "479001600")
	wantRun(t, "(let loop ((i 0)) (if (= i 100000) 'done (loop (+ i 1))))", "done")
	wantRun(t, "(define k #f) (define n 0) (define l '()) (set! l (cons (call/cc (lambda (c) (set! k c) 0)) l)) (set! n (+ n 1)) (if (< n 4) (k n)) l", "(3 2 1 0)")
	wantOutput(t, "(dynamic-wind (lambda () (write-u8 40)) (lambda () (call/cc (lambda (k) (k 5)))) (lambda () (write-u8 41)))", "", "5", "()")
	wantRun(t, "(define-syntax swap! (syntax-rules () ((_ a b) (let ((tmp a)) (set! a b) (set! b tmp))))) (let ((tmp 1) (y 2)) (swap! tmp y) (list tmp y))", "(2 1)")
	wantOutput(t, "(let loop ((c (read-u8))) (if (eof-object? c) 'end (begin (write-u8 c) (loop (read-u8)))))", "hello", "end", "hello")
	wantRun(t, "(vector-ref (make-vector 2 0) 2)", "type")
	wantRun(t, "'(1 \"two\" #(3 4))", "(1 \"two\" #(3 4))")
	wantRun(t, "(if #f #f)", "void")
	wantRun(t, "(define x 1)", "void")
}

func TestRunsOfTheMacros(t *testing.T) {
	wantRun(t, "(let ((x 1) (y 2)) (define z 3) (list x y z))", "(1 2 3)")
	wantRun(t, "(let ((x 1)) (let ((x 2) (y x)) (list x y)))", "(2 1)")
	wantRun(t, "(let* ((x 1) (y (+ x 1)) (x (+ y 1))) (list x y))", "(3 2)")
	wantRun(t, "(let* () 5)", "5")
	wantRun(t, "(let f ((n 5) (l '())) (if (= n 0) l (f (- n 1) (cons n l))))", "(1 2 3 4 5)")
	wantRun(t, "(let f () 7)", "7")
	wantRun(t, "(list (and) (and 1) (and 1 2) (and #f (error)) (and 1 #f (error)))", "(#t 1 2 #f #f)")
	wantRun(t, "(list (or) (or 1 (error)) (or #f 2) (or #f #f) (let ((t 5)) (or #f t)))", "(#f 1 2 #f 5)")
	wantRun(t, "(list (when 1 2 3) (when #f (error)) (unless #f 2 3) (unless 1 (error)))", "(3 void 3 void)")
	wantRun(t, "(define (f x) (cond ((= x 1) 'one) ((= x 2) => list) ((and (= x 3) 'three)) ((pair? x) (car x) 'no) (else 5 'other))) (list (f 1) (f 2) (f 3) (f 4))", "(one (#t) three other)")
	wantRun(t, "(list (cond) (cond (#f 1)) (cond (#f) (2)) (cond (#f => car) (else 3)))", "(void void 2 3)")
	wantRun(t, "(do ((i 0 (+ i 1)) (l '() (cons i l)) (k 9)) ((= i 4) k l))", "(3 2 1 0)")
	wantOutput(t, "(do ((i 65 (+ i 1))) ((= i 70)) (write-u8 i))", "", "void", "ABCDE")
	wantRun(t, "(list)", "()")
	wantRun(t, "(list 1 (list 2) \"a\")", "(1 (2) \"a\")")
}

func TestRunsOfTheFunctions(t *testing.T) {
	wantRun(t, "(list (not 1) (not #f) (> 1 2) (> 2 1) (<= 1 1) (<= 2 1) (>= 1 1) (>= 1 2))", "(#f #t #f #t #t #f #t #f)")
	wantRun(t, "(list (append '(1 2) '(3)) (append '() 5) (reverse '(1 2 3)) (length '(1 2 3)) (list-tail '(1 2 3) 2))", "((1 2 3) 5 (3 2 1) 3 (3))")
	wantRun(t, "(map (lambda (x) (* x x)) '(1 2 3))", "(1 4 9)")
	wantRun(t, "(map car '((1) (2)))", "(1 2)")
	wantOutput(t, "(for-each write-u8 '(65 66))", "", "void", "AB")
	wantRun(t, "(list (equal? '(1 #(2 \"ab\")) '(1 #(2 \"ab\"))) (equal? '(1) '(2)) (equal? \"ab\" \"ac\") (equal? \"ab\" \"abc\") (equal? '#(1 2) '#(1 2)) (equal? '#(1) '(1)) (equal? 1 2) (equal? 'a 'a) (equal? \"\" \"\"))", "(#t #f #f #f #t #f #f #t #t)")
	wantRun(t, "(list (apply (lambda () 0) '()) (apply + '(1 2)) (apply (lambda (a b c) (list c b a)) '(1 2 3)) (apply list-tail '((1 2) 1)) (apply (lambda (a b c d e f) (+ a f)) '(1 2 3 4 5 6)))", "(0 3 (3 2 1) (2) 7)")
	wantRun(t, "(apply (lambda (a b c d) (list a d)) '(1 2 3 4))", "(1 4)")
	wantRun(t, "(apply (lambda (a b c d e) (list a e)) '(1 2 3 4 5))", "(1 5)")
	wantRun(t, "(apply car '((1)))", "1")
	wantRun(t, "(common '(1 2) '(1 2))", "()")
	wantRun(t, "(let ((l '(1 2))) (common (cons 5 (cons 6 l)) (cons 7 l)))", "(1 2)")
	wantRun(t, "(call/cc (lambda (k) (+ 1 (k 42))))", "42")
	// Out of two, into one again, and out of it.
	wantOutput(t, "(define (w n) (lambda () (write-u8 n))) (define k #f) (define n 0) (dynamic-wind (w 40) (lambda () (dynamic-wind (w 91) (lambda () (call/cc (lambda (c) (set! k c))) (set! n (+ n 1))) (w 93))) (w 41)) (if (< n 3) (k n)) n", "", "3", "([])([])([])")
	wantOutput(t, "(define (w n) (lambda () (write-u8 n))) (call/cc (lambda (k) (dynamic-wind (w 40) (lambda () (dynamic-wind (w 91) (lambda () (k 7)) (w 93))) (w 41))))", "", "7", "([])")
}
