package heap

import (
	"math/big"
	"scrimshaw/api"
	"slices"
	"strings"
	"testing"
)

// P8.2

// row is a line of the table: a primitive, and of which kinds its arguments are; a letter each: a anything, n ValInt, c ValChar, p ThingPair, v ThingVector, s ThingString, b ThingBox.
type row struct{ prim, args string }

func table() []row {
	var l []row
	for _, line := range strings.Split("+ - * quotient remainder < =:nn;eq? cons:aa;null? symbol? char? integer? boolean? eof-object? pair? vector? string? procedure? %box:a;car cdr:p;set-car! set-cdr!:pa;make-vector:na;make-string:nc;vector-length:v;string-length:s;vector-ref:vn;string-ref:sn;vector-set!:vna;string-set!:snc;char->integer:c;integer->char:n;%unbox:b;%set-box!:ba;void %unset:", ";") {
		prims, args, _ := strings.Cut(line, ":")
		for _, prim := range strings.Fields(prims) {
			l = append(l, row{prim, args})
		}
	}
	return l
}

// isOf tells whether a value of a heap that some makes is of a kind.
func isOf(v api.Val, letter byte) bool {
	switch letter {
	case 'a':
		return true
	case 'n':
		return v.Kind == api.ValInt
	case 'c':
		return v.Kind == api.ValChar
	}
	kinds := map[byte][]api.Val{'p': vals(thing(somePair)), 'v': vals(thing(someVector), thing(noVector)), 's': vals(thing(someText), thing(noText)), 'b': vals(thing(someBox))}
	return slices.Contains(kinds[letter], v)
}

// fitting are arguments of these kinds, with which nothing fails.
func fitting(args string) []api.Val {
	var l []api.Val
	for _, letter := range []byte(args) {
		l = append(l, map[byte]api.Val{'a': sym("x"), 'n': num(1), 'c': chr(65), 'p': thing(somePair), 'v': thing(someVector), 's': thing(someText), 'b': thing(someBox)}[letter])
	}
	return l
}

// wantFails holds an error against what is done, and looks that nothing is changed.
func wantFails(t *testing.T, h *Heap, prim string, args []api.Val, want api.Errno) {
	t.Helper()
	was := state(h)
	v, e := h.Do(prim, args)
	if v != (api.Val{}) || e != want {
		t.Errorf("Do(%s, %s): %s, %v; want %v", prim, rawVals(args), rawVal(v), e, want)
	}
	if state(h) != was {
		t.Errorf("Do(%s, %s) fails, and changes the heap", prim, rawVals(args))
	}
}

// wantDone holds a value against what is done.
func wantDone(t *testing.T, h *Heap, prim string, args []api.Val, want api.Val) {
	t.Helper()
	was := rawVals(args)
	if v, e := h.Do(prim, args); v != want || e != api.OK {
		t.Errorf("Do(%s, %s): %s, %v; want %s", prim, was, rawVal(v), e, rawVal(want))
	}
	if rawVals(args) != was {
		t.Errorf("Do(%s, %s) changes its arguments", prim, was)
	}
}

func TestTheTableHasAll(t *testing.T) {
	if len(table()) != 38 {
		t.Error(len(table()))
	}
	for _, r := range table() {
		if _, e := some(t).Do(r.prim, fitting(r.args)); e != api.OK {
			t.Errorf("%s: %v", r.prim, e)
		}
	}
}

func TestWhatIsNoPrimitive(t *testing.T) {
	h := some(t)
	for _, prim := range []string{"", " ", "cadr", "read-u8", "write-u8", "error", "%winders", "%wind!", "%callcc", "call/cc", "not", "list", "if", "quote", "Car", "car ", "CAR", "add", "0", "vector", "equal?", "eqv?", "number?", "%unset!", strings.Repeat("car", 100000)} {
		for n := range 4 {
			wantFails(t, h, prim, many(n, num(1)), api.ErrArg)
			wantFails(t, h, prim, many(n, thing(somePair)), api.ErrArg)
		}
	}
}

func TestHowManyArguments(t *testing.T) {
	h := some(t)
	long := many(200000, num(1))
	for _, r := range table() {
		args := append(fitting(r.args), many(5, num(1))...)
		for n := range args {
			if n != len(r.args) {
				wantFails(t, h, r.prim, args[:n], api.ErrArg)
			}
		}
		wantFails(t, h, r.prim, long, api.ErrArg)
	}
}

func TestArgumentsThatAreNoValues(t *testing.T) {
	h := some(t)
	for _, r := range table() {
		for at := range len(r.args) {
			for _, v := range odd() {
				args := fitting(r.args)
				args[at] = v
				wantFails(t, h, r.prim, args, api.ErrArg)
				// Also where another one is of no kind that is wanted, or out of range.
				for i := range args {
					if i != at {
						args[i] = unset
						wantFails(t, h, r.prim, args, api.ErrArg)
						args[i] = num(-1)
						wantFails(t, h, r.prim, args, api.ErrArg)
					}
				}
			}
		}
	}
}

func TestKindsOfArguments(t *testing.T) {
	for _, r := range table() {
		for at := range len(r.args) {
			for _, v := range each() {
				h := some(t)
				args := fitting(r.args)
				args[at] = v
				if !isOf(v, r.args[at]) {
					wantFails(t, h, r.prim, args, api.ErrRunType)
				} else if _, e := h.Do(r.prim, args); e == api.ErrRunType || e == api.ErrArg {
					t.Errorf("Do(%s, %s): %v", r.prim, rawVals(args), e)
				}
			}
		}
	}
}

// What is of no kind that is wanted comes ahead of all that the row tells, wherever it stands.
func TestTypeComesFirst(t *testing.T) {
	h := some(t)
	v, s := thing(someVector), thing(someText)
	for _, c := range []struct {
		prim string
		args []api.Val
	}{
		{"quotient", vals(yes, num(0))}, {"remainder", vals(chr(1), num(0))}, {"quotient", vals(num(1), no)}, {"+", vals(num(api.MaxInt), chr(1))}, {"*", vals(null, num(api.MaxInt))},
		{"make-vector", vals(null, num(-1))}, {"make-vector", vals(chr(3), no)}, {"make-string", vals(num(-1), num(65))}, {"make-string", vals(num(1001), null)}, {"make-string", vals(chr(3), chr(65))}, {"make-string", vals(chr(3), num(65))},
		{"vector-ref", vals(s, num(0))}, {"vector-ref", vals(s, num(9))}, {"vector-ref", vals(v, chr(0))}, {"vector-ref", vals(num(0), v)}, {"string-ref", vals(v, num(9))}, {"string-ref", vals(s, chr(9))},
		{"vector-set!", vals(s, num(9), no)}, {"vector-set!", vals(v, no, no)}, {"string-set!", vals(v, num(0), chr(1))}, {"string-set!", vals(s, num(9), num(65))}, {"string-set!", vals(s, num(-1), sym("a"))}, {"string-set!", vals(s, num(0), num(65))}, {"string-set!", vals(s, chr(0), chr(65))},
		{"integer->char", vals(chr(65))}, {"char->integer", vals(num(65))},
		{"car", vals(v)}, {"car", vals(null)}, {"cdr", vals(thing(someBox))}, {"set-car!", vals(thing(someBox), num(1))}, {"set-cdr!", vals(null, null)}, {"%unbox", vals(thing(somePair))}, {"%set-box!", vals(thing(someProc), no)},
		{"vector-length", vals(s)}, {"string-length", vals(v)}, {"vector-length", vals(thing(noText))}, {"string-length", vals(thing(noVector))}, {"vector-length", vals(thing(someProc))},
	} {
		wantFails(t, h, c.prim, c.args, api.ErrRunType)
	}
}

// numbers are chosen so that sums, products and quotients of two of them lie on both sides of every bound.
func numbers() []int {
	l := []int{0, 1, 2, 3, 7, 1000003, 1<<30 - 1, 1 << 30, 1<<30 + 1, 1 << 31, api.MaxInt / 2, api.MaxInt/2 + 1, api.MaxInt/3 + 1, api.MaxInt - 1, api.MaxInt}
	for _, n := range slices.Clone(l) {
		l = append(l, -n-1, -n)
	}
	return l
}

// reckoned is the third number of two, and an error.
func reckoned(prim string, a, b int) (api.Val, api.Errno) {
	x, y, z := big.NewInt(int64(a)), big.NewInt(int64(b)), new(big.Int)
	switch prim {
	case "+":
		z.Add(x, y)
	case "-":
		z.Sub(x, y)
	case "*":
		z.Mul(x, y)
	default:
		if b == 0 {
			return api.Val{}, api.ErrRunZero
		}
		if prim == "quotient" {
			z.Quo(x, y)
		} else {
			z.Rem(x, y)
		}
	}
	most := big.NewInt(api.MaxInt)
	if z.Cmp(most) > 0 || z.Cmp(new(big.Int).Not(most)) < 0 {
		return api.Val{}, api.ErrRunOver
	}
	return num(int(z.Int64())), api.OK
}

func TestReckoning(t *testing.T) {
	h := New()
	came := map[api.Errno]int{}
	for _, prim := range []string{"+", "-", "*", "quotient", "remainder"} {
		for _, a := range numbers() {
			for _, b := range numbers() {
				want, wrong := reckoned(prim, a, b)
				if v, e := h.Do(prim, vals(num(a), num(b))); v != want || e != wrong {
					t.Errorf("%s of %d and %d: %v, %v; want %v, %v", prim, a, b, v, e, want, wrong)
				}
				came[wrong]++
			}
		}
	}
	if came[api.OK] == 0 || came[api.ErrRunOver] == 0 || came[api.ErrRunZero] == 0 || h.Count() != 0 {
		t.Error(came)
	}
	const least = -api.MaxInt - 1
	wantDone(t, h, "quotient", vals(num(-7), num(2)), num(-3))
	wantDone(t, h, "remainder", vals(num(-7), num(2)), num(-1))
	wantDone(t, h, "remainder", vals(num(7), num(-2)), num(1))
	wantDone(t, h, "remainder", vals(num(least), num(-1)), num(0))
	wantDone(t, h, "-", vals(num(3), num(5)), num(-2))
	wantFails(t, h, "quotient", vals(num(least), num(-1)), api.ErrRunOver)
	wantFails(t, h, "quotient", vals(num(7), num(0)), api.ErrRunZero)
	wantFails(t, h, "remainder", vals(num(0), num(0)), api.ErrRunZero)
	wantFails(t, h, "+", vals(num(api.MaxInt), num(1)), api.ErrRunOver)
	wantFails(t, h, "*", vals(num(1<<59), num(2)), api.ErrRunOver)
	wantFails(t, h, "*", vals(num(1<<32), num(1<<32)), api.ErrRunOver)
}

func TestOrder(t *testing.T) {
	h := New()
	for _, a := range numbers() {
		for _, b := range numbers() {
			wantDone(t, h, "<", vals(num(a), num(b)), map[bool]api.Val{false: no, true: yes}[a < b])
			wantDone(t, h, "=", vals(num(a), num(b)), map[bool]api.Val{false: no, true: yes}[a == b])
		}
	}
}

func TestSame(t *testing.T) {
	h := some(t)
	for i, a := range each() {
		for j, b := range each() {
			wantDone(t, h, "eq?", vals(a, b), map[bool]api.Val{false: no, true: yes}[i == j])
		}
	}
	a, b := do(t, h, "cons", num(1), null), do(t, h, "cons", num(1), null)
	wantDone(t, h, "eq?", vals(a, b), no)
	wantDone(t, h, "eq?", vals(a, a), yes)
	wantDone(t, h, "eq?", vals(num(1), yes), no)
	wantDone(t, h, "eq?", vals(num(65), chr(65)), no)
	wantDone(t, h, "eq?", vals(num(0), thing(0)), no)
}

func TestWhatAValueIs(t *testing.T) {
	h := some(t)
	for _, c := range []struct {
		prim string
		is   func(api.Val) bool
	}{
		{"null?", func(v api.Val) bool { return v == null }},
		{"symbol?", func(v api.Val) bool { return v.Text != "" }},
		{"char?", func(v api.Val) bool { return v.Kind == api.ValChar }},
		{"integer?", func(v api.Val) bool { return v.Kind == api.ValInt }},
		{"boolean?", func(v api.Val) bool { return v == no || v == yes }},
		{"eof-object?", func(v api.Val) bool { return v == eof }},
		{"pair?", func(v api.Val) bool { return v == thing(somePair) }},
		{"vector?", func(v api.Val) bool { return v == thing(someVector) || v == thing(noVector) }},
		{"string?", func(v api.Val) bool { return v == thing(someText) || v == thing(noText) }},
		{"procedure?", func(v api.Val) bool { return v == thing(someProc) || v == thing(noProc) }},
	} {
		for _, v := range each() {
			wantDone(t, h, c.prim, vals(v), map[bool]api.Val{false: no, true: yes}[c.is(v)])
		}
	}
}

func TestPairsAndBoxes(t *testing.T) {
	for _, a := range each() {
		for _, b := range each() {
			h := some(t)
			was := state(h)
			p, q := thing(someCount), thing(someCount+1)
			wantDone(t, h, "cons", vals(a, b), p)
			wantDone(t, h, "%box", vals(a), q)
			wantDone(t, h, "car", vals(p), a)
			wantDone(t, h, "cdr", vals(p), b)
			wantDone(t, h, "%unbox", vals(q), a)
			wantDone(t, h, "set-car!", vals(p, b), void)
			wantDone(t, h, "car", vals(p), b)
			wantDone(t, h, "cdr", vals(p), b)
			wantDone(t, h, "set-cdr!", vals(p, a), void)
			wantDone(t, h, "car", vals(p), b)
			wantDone(t, h, "cdr", vals(p), a)
			wantDone(t, h, "%unbox", vals(q), a)
			wantDone(t, h, "%set-box!", vals(q, b), void)
			wantDone(t, h, "%unbox", vals(q), b)
			if want := "10" + was[1:] + "\n" + rawThing(api.Thing{Kind: api.ThingPair, Parts: vals(b, a)}) + "\n" + rawThing(api.Thing{Kind: api.ThingBox, Parts: vals(b)}); state(h) != want {
				t.Errorf("%s; want\n%s", state(h), want)
			}
		}
	}
}

func TestMakingOfMany(t *testing.T) {
	for _, n := range []int{0, 1, 2, 999, 1000} {
		h := some(t)
		for _, v := range each() {
			made := do(t, h, "make-vector", num(n), v)
			if x, _ := h.Thing(made); x.Kind != api.ThingVector || !slices.Equal(x.Parts, many(n, v)) || made != thing(h.Count()-1) {
				t.Errorf("%d of %v: %v", n, v, x)
			}
			wantDone(t, h, "vector-length", vals(made), num(n))
		}
		for _, b := range []int{0, 65, 255} {
			made := do(t, h, "make-string", num(n), chr(b))
			if x, _ := h.Thing(made); x.Kind != api.ThingString || !slices.Equal(x.Parts, many(n, chr(b))) || made != thing(h.Count()-1) {
				t.Errorf("%d of the byte %d: %v", n, b, x)
			}
			wantDone(t, h, "string-length", vals(made), num(n))
		}
	}
	h := some(t)
	for _, n := range []int{-1, 1001, 1002, -1000, 1 << 40, api.MaxInt, -api.MaxInt - 1} {
		wantFails(t, h, "make-vector", vals(num(n), no), api.ErrRunRange)
		wantFails(t, h, "make-string", vals(num(n), chr(65)), api.ErrRunRange)
	}
}

func TestPartsOfMany(t *testing.T) {
	for _, c := range []struct {
		kind      string
		first, at api.Val
	}{{"vector", num(7), sym("z")}, {"string", chr(7), chr(200)}} {
		for _, n := range []int{0, 1, 5, 1000} {
			h := New()
			v := do(t, h, "make-"+c.kind, num(n), c.first)
			other := do(t, h, "make-"+c.kind, num(n), c.first)
			for _, at := range []int{-1, n, n + 1, -api.MaxInt - 1, api.MaxInt, 1 << 32} {
				wantFails(t, h, c.kind+"-ref", vals(v, num(at)), api.ErrRunRange)
				wantFails(t, h, c.kind+"-set!", vals(v, num(at), c.at), api.ErrRunRange)
			}
			for _, at := range []int{0, n / 2, n - 1} {
				if at < 0 || at >= n {
					continue
				}
				wantDone(t, h, c.kind+"-ref", vals(v, num(at)), c.first)
				wantDone(t, h, c.kind+"-set!", vals(v, num(at), c.at), void)
				wantDone(t, h, c.kind+"-ref", vals(v, num(at)), c.at)
				want := many(n, c.first)
				want[at] = c.at
				if x, _ := h.Thing(v); !slices.Equal(x.Parts, want) {
					t.Errorf("%s, %d: %v", c.kind, at, x)
				}
				if x, _ := h.Thing(other); !slices.Equal(x.Parts, many(n, c.first)) {
					t.Errorf("%s, %d: another one is changed", c.kind, at)
				}
				wantDone(t, h, c.kind+"-length", vals(v), num(n))
				wantDone(t, h, c.kind+"-set!", vals(v, num(at), c.first), void)
			}
		}
	}
	// Of what was made of parts as well, and within itself.
	h := some(t)
	v := thing(someVector)
	wantDone(t, h, "vector-ref", vals(v, num(2)), thing(somePair))
	wantDone(t, h, "vector-set!", vals(v, num(0), v), void)
	wantDone(t, h, "vector-ref", vals(v, num(0)), v)
	wantDone(t, h, "string-ref", vals(thing(someText), num(1)), chr(98))
	wantFails(t, h, "vector-ref", vals(thing(noVector), num(0)), api.ErrRunRange)
	wantFails(t, h, "string-ref", vals(thing(noText), num(0)), api.ErrRunRange)
}

func TestCharsAndNumbers(t *testing.T) {
	h := New()
	for n := range 256 {
		wantDone(t, h, "char->integer", vals(chr(n)), num(n))
		wantDone(t, h, "integer->char", vals(num(n)), chr(n))
	}
	for _, n := range []int{-1, 256, 257, -256, 1 << 32, 1<<32 + 65, api.MaxInt, -api.MaxInt - 1} {
		wantFails(t, h, "integer->char", vals(num(n)), api.ErrRunRange)
	}
}

func TestOfNoArguments(t *testing.T) {
	h := New()
	wantDone(t, h, "void", nil, void)
	wantDone(t, h, "void", vals(), void)
	wantDone(t, h, "%unset", nil, unset)
	if h.Count() != 0 {
		t.Error(h.Count())
	}
}
