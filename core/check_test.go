package core

import (
	"scrimshaw/api"
	"slices"
	"strings"
	"testing"
)

// P6.1

// arities are the table of the chapter.
var arities = tabled()

func tabled() map[string]int {
	out := map[string]int{}
	for n, l := range []string{
		"read-u8 error void %winders %unset",
		"null? pair? vector? string? symbol? char? integer? boolean? procedure? eof-object? car cdr vector-length string-length char->integer integer->char write-u8 %box %unbox %wind! %callcc",
		"+ - * quotient remainder < = eq? cons set-car! set-cdr! make-vector vector-ref make-string string-ref %set-box!",
		"vector-set! string-set!",
	} {
		for _, name := range strings.Fields(l) {
			out[name] = n
		}
	}
	return out
}

func TestArity(t *testing.T) {
	all := arities
	if len(all) != 44 {
		t.Errorf("%d primitives", len(all))
	}
	for name, want := range all {
		if n := Arity(name); n != want {
			t.Errorf("Arity(%s): %d", name, n)
		}
		for _, other := range []string{name + " ", " " + name, name + "\x00", name[1:], name[:len(name)-1], strings.ToUpper(name), "%" + name, name + "?", name + "!", name + name} {
			want, is := all[other]
			if !is {
				want = -1
			}
			if n := Arity(other); n != want {
				t.Errorf("Arity(%q): %d", other, n)
			}
		}
	}
	for _, name := range []string{"", "cadr", "list", "not", ">", "<=", ">=", "modulo", "if", "quote", "lambda", "call", "prim", "set!", "begin", "apply", "call/cc", "%box-ref", "read-u8!", "eof-object", "newline", strings.Repeat("car", 1<<20)} {
		if n := Arity(name); n != -1 {
			t.Errorf("Arity(%.30q): %d", name, n)
		}
	}
}

// someConstants are all sorts of what may be quoted.
func someConstants() []api.Datum {
	return row(boolean(0), boolean(1), number(0), number(-5), number(api.MaxInt), number(-api.MaxInt-1), char(0), char(255), sym("a"), sym("quote"), sym(strings.Repeat("a", 64)), api.Datum{Kind: api.DatList}, api.Datum{Kind: api.DatList, List: row()})
}

// someExprs may be: of each kind those with the fewest and the most parts, and others.
func someExprs() []api.Expr {
	a, b, f := ref("a"), quote(number(1)), lam(names("a"), ref("a"))
	out := kids(a, ref("if"), ref("car"), ref("v.0"), ref("1+"), ref(strings.Repeat("a", 64)),
		set("a", b), set("car", set("b", a)), cond(a, b, a), cond(f, f, f), seq(a, b), seq(a, b, a, b, a, b, a, b, a), seq(many(4095)...),
		lam(nil, a), lam(names(), a), lam(names("a"), lam(names("a"), a)), lam(names("a", "b", "c", "d", "e", "f"), b),
		call(a), call(f), call(f, a), call(a, a, a, a, a, a, a),
		let(nil, a), let(names("a"), a, a), let(names("a", "b"), b, a, seq(a, b)), let(names("a"), f, let(names("a"), a, a)), let(numbers(4094), many(4095)...),
		rec(nil, a), rec(names("a"), a, a), rec(names("f", "car"), f, b, call(ref("f"), a)), rec(numbers(4094), many(4095)...),
		fixed(names("f"), f, a), fixed(names("f", "g", "h"), f, lam(nil, ref("f")), f, ref("f")), fixed(numbers(2047), append(slices.Repeat(kids(lam(nil, a)), 2047), a)...),
		fixed(names("f"), f, fixed(names("f"), f, f)), nested(249, a), nested(248, f), nested(249, b))
	for _, d := range someConstants() {
		out = append(out, quote(d))
	}
	for name, n := range arities {
		out = append(out, prim(name, many(n)...))
	}
	return out
}

func TestExprsThatMayBe(t *testing.T) {
	for _, e := range someExprs() {
		wantCheck(t, e, api.OK)
	}
	wantCheck(t, api.Expr{}, api.OK)
	wantCheck(t, api.Expr{Names: names(), Kids: kids(), Const: api.Datum{List: row()}}, api.OK)
	for _, l := range [][]string{names("a", "A"), names("a", "aa"), names("a.1", "a.2"), names("if", "quote", "call", "prim", "car", "cdr")} {
		wantCheck(t, lam(l, ref("a")), api.OK)
	}
}

func TestFieldsThatAKindDoesNotUse(t *testing.T) {
	for _, e := range someExprs() {
		if !isShort(e, 50) {
			continue
		}
		if e.Name == "" {
			other := e
			other.Name = "car"
			wantCheck(t, other, api.ErrCoreForm)
		}
		if e.Kind < api.ExpLam || e.Kind == api.ExpCall || e.Kind == api.ExpPrim {
			other := e
			other.Names = names("z")
			wantCheck(t, other, api.ErrCoreForm)
		}
		if e.Kind != api.ExpQuote {
			for _, d := range row(boolean(1), number(0), api.Datum{Text: "a"}, api.Datum{List: row(boolean(0))}, api.Datum{Kind: api.DatList}, sym("a"), api.Datum{Kind: -1}) {
				other := e
				other.Const = d
				wantCheck(t, other, api.ErrCoreForm)
			}
		}
	}
}

func TestHowManyKids(t *testing.T) {
	f := lam(nil, ref("a"))
	six := names("a", "b", "c", "d", "e", "f")
	for _, c := range []struct {
		with func(l ...api.Expr) api.Expr
		may  []int
	}{
		{func(l ...api.Expr) api.Expr { return api.Expr{Kind: api.ExpQuote, Kids: l} }, []int{0}},
		{func(l ...api.Expr) api.Expr { return api.Expr{Kind: api.ExpRef, Name: "a", Kids: l} }, []int{0}},
		{func(l ...api.Expr) api.Expr { return set("a", l...) }, []int{1}},
		{cond, []int{3}},
		{seq, []int{2, 3, 4, 5, 6, 7, 8, 9}},
		{func(l ...api.Expr) api.Expr { return lam(nil, l...) }, []int{1}},
		{func(l ...api.Expr) api.Expr { return lam(names("a", "b"), l...) }, []int{1}},
		{call, []int{1, 2, 3, 4, 5, 6, 7}},
		{func(l ...api.Expr) api.Expr { return prim("void", l...) }, []int{0}},
		{func(l ...api.Expr) api.Expr { return prim("car", l...) }, []int{1}},
		{func(l ...api.Expr) api.Expr { return prim("cons", l...) }, []int{2}},
		{func(l ...api.Expr) api.Expr { return prim("string-set!", l...) }, []int{3}},
		{func(l ...api.Expr) api.Expr { return prim("cadr", l...) }, nil},
		{func(l ...api.Expr) api.Expr { return let(nil, l...) }, []int{1}},
		{func(l ...api.Expr) api.Expr { return let(names("a"), l...) }, []int{2}},
		{func(l ...api.Expr) api.Expr { return let(six, l...) }, []int{7}},
		{func(l ...api.Expr) api.Expr { return rec(nil, l...) }, []int{1}},
		{func(l ...api.Expr) api.Expr { return rec(names("a", "b"), l...) }, []int{3}},
		{func(l ...api.Expr) api.Expr { return fixed(nil, l...) }, nil},
		{func(l ...api.Expr) api.Expr { return fixed(names("a"), l...) }, []int{2}},
		{func(l ...api.Expr) api.Expr { return fixed(names("a", "b"), l...) }, []int{3}},
		{func(l ...api.Expr) api.Expr { return api.Expr{Kind: api.ExpClo, Kids: l} }, nil},
		{func(l ...api.Expr) api.Expr { return api.Expr{Kind: api.ExpClo, Const: number(0), Kids: l} }, nil},
		{func(l ...api.Expr) api.Expr { return api.Expr{Kind: -1, Kids: l} }, nil},
		{func(l ...api.Expr) api.Expr { return api.Expr{Kind: 1 << 40, Kids: l} }, nil},
	} {
		for n := range 10 {
			want := api.ErrCoreForm
			if slices.Contains(c.may, n) {
				want = api.OK
			}
			wantCheck(t, c.with(slices.Repeat(kids(f), n)...), want)
		}
	}
}

func TestWrongFields(t *testing.T) {
	a, f := ref("a"), lam(nil, ref("a"))
	for _, s := range []string{"", ".", "5", "-5", "+", "a b", "(", "a\n", strings.Repeat("a", 65), strings.Repeat("a", 1<<20)} {
		want := api.ErrCoreForm
		if s == "+" {
			want = api.OK
		}
		wantCheck(t, ref(s), want)
		wantCheck(t, set(s, a), want)
		wantCheck(t, lam(names(s), a), want)
		wantCheck(t, lam(names("a", s), a), want)
		wantCheck(t, let(names(s, "a"), a, a, a), want)
		wantCheck(t, rec(names("a", s), a, a, a), want)
		wantCheck(t, fixed(names("a", s), f, f, a), want)
	}
	for _, l := range [][]string{names("a", "a"), names("a", "b", "a"), names("b", "a", "a"), names("a", "b", "c", "d", "e", "a")} {
		wantCheck(t, lam(l, a), api.ErrCoreForm)
		wantCheck(t, let(l, many(len(l)+1)...), api.ErrCoreForm)
		wantCheck(t, rec(l, many(len(l)+1)...), api.ErrCoreForm)
		wantCheck(t, fixed(l, slices.Repeat(kids(f), len(l)+1)...), api.ErrCoreForm)
	}
	wantCheck(t, lam(names("a", "b", "c", "d", "e", "f", "g"), a), api.ErrCoreForm)
	for _, d := range row(api.Datum{Kind: api.DatString}, api.Datum{Kind: api.DatString, Text: "a"}, vector(), vector(number(1)), api.Datum{Kind: api.DatDotted}, api.Datum{Kind: api.DatDotted, List: row(number(1), number(2))},
		api.Datum{Kind: api.DatList, List: row(number(1))}, api.Datum{Kind: api.DatList, Int: 1}, api.Datum{Kind: api.DatList, Text: "a"}, boolean(2), boolean(-1), number(api.MaxInt+1), number(-api.MaxInt-2), char(256), char(-1),
		sym(""), sym("5"), sym("a b"), sym(strings.Repeat("a", 65)), api.Datum{Kind: api.DatSymbol, Text: "a", Int: 1}, api.Datum{Kind: api.DatSymbol, Text: "a", List: row(number(1))}, api.Datum{Text: "a"}, api.Datum{List: row(boolean(0))}, api.Datum{Kind: -1}, api.Datum{Kind: api.DatKinds}) {
		wantCheck(t, quote(d), api.ErrCoreForm)
		wantCheck(t, seq(a, quote(d)), api.ErrCoreForm)
	}
}

func TestWhatAFixBinds(t *testing.T) {
	a, f := ref("a"), lam(nil, ref("a"))
	for _, e := range []api.Expr{a, quote(number(1)), seq(f, f), let(nil, f), call(f), fixed(names("f"), f, f), {Kind: 99}, {Kind: -1}, {Kind: api.ExpClo}} {
		wantCheck(t, fixed(names("f"), e, f), api.ErrCoreForm)
		wantCheck(t, fixed(names("f", "g"), f, e, f), api.ErrCoreForm)
		wantCheck(t, fixed(names("f", "g"), e, f, f), api.ErrCoreForm)
	}
	wantCheck(t, fixed(names("f", "g"), f, f, a), api.OK)
	wantCheck(t, fixed(names("f", "g"), f, f, f), api.OK)
	wantCheck(t, fixed(names("f"), lam(nil), f), api.ErrCoreForm)
	// The kinds are the fix's own matter: they are told ahead of what is wrong within.
	wantCheck(t, nested(247, fixed(names("f", "g"), lam(nil, call(a)), a, a)), api.ErrCoreForm)
	wantCheck(t, nested(247, fixed(names("f", "g"), lam(nil, call(a)), f, a)), api.ErrCoreDeep)
}

func TestHowDeep(t *testing.T) {
	a, odd := ref("a"), api.Expr{Kind: 99}
	wantCheck(t, nested(249, a), api.OK)
	wantCheck(t, nested(250, a), api.ErrCoreDeep)
	wantCheck(t, nested(100000, a), api.ErrCoreDeep)
	wantCheck(t, nested(249, odd), api.ErrCoreForm)
	wantCheck(t, nested(250, odd), api.ErrCoreDeep)
	wantCheck(t, seq(nested(248, a), nested(248, a)), api.OK)
	wantCheck(t, seq(nested(248, a), nested(249, a)), api.ErrCoreDeep)
	wantCheck(t, seq(odd, nested(249, a)), api.ErrCoreForm)
	wantCheck(t, seq(nested(249, a), odd), api.ErrCoreDeep)
	wantCheck(t, nested(248, lam(nil, a)), api.OK)
	wantCheck(t, nested(249, lam(nil, a)), api.ErrCoreDeep)
	wantCheck(t, nested(248, let(nil, a)), api.OK)
	wantCheck(t, nested(249, seq(a)), api.ErrCoreForm)
	for _, e := range []api.Expr{call(a), seq(a, a), lam(nil, a), let(names("b"), a, a), rec(names("b"), a, a), fixed(names("b"), a, a), cond(a, a, a), set("a", a), prim("car", a)} {
		want := api.ErrCoreDeep
		if e.Kind == api.ExpFix {
			want = api.OK
			e.Kids = kids(lam(nil, a), a)
			wantCheck(t, nested(247, e), want)
			wantCheck(t, nested(248, e), api.ErrCoreDeep)
			continue
		}
		wantCheck(t, nested(248, e), api.OK)
		wantCheck(t, nested(249, e), want)
	}
}

func TestHowMany(t *testing.T) {
	a, odd := ref("a"), api.Expr{Kind: 99}
	wantCheck(t, seq(many(4095)...), api.OK)
	wantCheck(t, seq(many(4096)...), api.ErrCoreMany)
	wantCheck(t, seq(append(many(4094), odd)...), api.ErrCoreForm)
	wantCheck(t, seq(append(many(4095), odd)...), api.ErrCoreMany)
	wantCheck(t, seq(append(many(4094), odd, a)...), api.ErrCoreForm)
	wantCheck(t, seq(append(kids(odd), many(5000)...)...), api.ErrCoreForm)
	wantCheck(t, seq(append(many(4094), call(a))...), api.ErrCoreMany)
	wantCheck(t, seq(append(many(4093), call(a))...), api.OK)
	// At one expression that is both too deep and one too many, or one too many and odd, that is the first.
	wantCheck(t, nested(249, call(a)), api.ErrCoreDeep)
	deep := func(n int) api.Expr { return seq(append(many(n), nested(249, odd))...) }
	wantCheck(t, deep(4095-250), api.ErrCoreDeep)
	wantCheck(t, deep(4096-250), api.ErrCoreMany)
	wantCheck(t, let(numbers(4095), many(4096)...), api.ErrCoreMany)
	wantCheck(t, let(append(numbers(4095), "n0"), many(4097)...), api.ErrCoreForm)
	wantCheck(t, let(append(numbers(100000), "n0"), many(100002)...), api.ErrCoreForm)
	wantCheck(t, let(numbers(100000), many(100001)...), api.ErrCoreMany)
	wantCheck(t, fixed(numbers(5000), append(slices.Repeat(kids(lam(nil, a)), 5000), a)...), api.ErrCoreMany)
	wantCheck(t, fixed(numbers(5000), append(slices.Repeat(kids(lam(nil, a)), 4999), a, a)...), api.ErrCoreForm)
}

// withThemselves are expressions without an end.
func withThemselves() []api.Expr {
	a := ref("a")
	return kids(looped(call(a)), looped(seq(a, a)), looped(lam(names("a"), a)), looped(let(names("a", "b"), a, a, a)), looped(rec(numbers(100), many(101)...)), looped(cond(a, a, a)), looped(set("a", a)), wide())
}

func TestExprsWithinThemselves(t *testing.T) {
	for i, e := range withThemselves() {
		want := api.ErrCoreDeep
		if i == 7 {
			want = api.ErrCoreMany
		}
		wantCheck(t, e, want)
	}
	wantCheck(t, looped(fixed(names("f"), lam(nil, ref("a")), ref("a"))), api.ErrCoreForm)
	// The way down is gone first: where that ends, how many there are may be told ahead.
	wantCheck(t, seq(append(many(4090), looped(call(ref("a"))))...), api.ErrCoreMany)
}

func TestNamesWithoutKidsAreNotGoneOver(t *testing.T) {
	l := slices.Repeat(names(strings.Repeat("a", 1<<20)), 1<<20)
	for kind := range api.ExpKinds + 2 {
		wantCheck(t, api.Expr{Kind: kind, Names: l, Kids: kids(ref("a"))}, api.ErrCoreForm)
	}
}

// alike are expressions of which no two are the same.
func alike() []api.Expr {
	a, b := ref("a"), ref("b")
	out := kids(a, b, ref(""), quote(boolean(0)), quote(boolean(1)), quote(number(0)), quote(sym("a")), quote(vector()), quote(vector(number(1))), quote(vector(number(1), number(2))), quote(api.Datum{Text: "a"}), quote(api.Datum{List: row(number(1))}),
		set("a", a), set("b", a), set("a", b), set("a"), set("a", a, a), cond(a, a, a), cond(a, a, b), cond(a, b, a), cond(b, a, a), seq(a, a), seq(a, a, a), seq(), seq(a), seq(seq(a), a), seq(a, seq(a)),
		lam(nil, a), lam(names("a"), a), lam(names("b"), a), lam(names(""), a), lam(names("a", "b"), a), lam(names("b", "a"), a), lam(names("ab"), a), lam(names("a")), let(names("a"), a, a), rec(names("a"), a, a), fixed(names("a"), a, a),
		call(a), call(), prim("car", a), prim("cdr", a), ref("car"), api.Expr{Kind: -1}, api.Expr{Kind: 99}, api.Expr{Kind: api.ExpClo, Const: number(1)}, api.Expr{Kind: api.ExpClo, Const: number(2)},
		api.Expr{Kind: api.ExpRef, Name: "a", Const: number(1)}, api.Expr{Kind: api.ExpRef, Name: "a", Names: names("a")}, api.Expr{Kind: api.ExpRef, Name: "a", Kids: kids(a)}, api.Expr{Kind: api.ExpQuote, Name: "a"}, api.Expr{Kind: api.ExpIf, Name: "a", Kids: kids(a, a, a)})
	for _, e := range slices.Clone(out) {
		out = append(out, call(e, ref("z")), call(ref("z"), e), call(lam(nil, e)))
	}
	return out
}

func TestEqual(t *testing.T) {
	l, again := alike(), alike()
	for i := range l {
		for j := range again {
			if is := Equal(l[i], again[j]); is != (i == j) {
				t.Errorf("Equal(%s, %s): %v", rawExpr(l[i]), rawExpr(again[j]), is)
			}
		}
	}
	empty := api.Expr{Names: names(), Const: api.Datum{List: row()}, Kids: kids()}
	if !Equal(empty, api.Expr{}) || !Equal(api.Expr{}, empty) || !Equal(call(empty), call(api.Expr{})) {
		t.Error("empty lists and nil ones")
	}
	for _, e := range []api.Expr{seq(many(99990)...), nested(90000, ref("a")), lam(numbers(100000), ref("a")), quote(vector(slices.Repeat(row(number(1)), 90000)...))} {
		if !Equal(e, e) || Equal(e, ref("a")) || Equal(call(e, ref("a")), call(e, ref("b"))) || Equal(ref("a"), e) {
			t.Error("of many")
		}
	}
	// One that ends is another than one that does not.
	for _, e := range withThemselves()[:7] {
		if Equal(e, ref("a")) || Equal(call(ref("a")), e) {
			t.Error("of one within itself")
		}
	}
}

func TestCheckedArgumentsAreAsTheyWere(t *testing.T) {
	for _, e := range someExprs() {
		was := rawExpr(e)
		Check(e)
		Equal(e, e)
		if rawExpr(e) != was {
			t.Errorf("%.300s is another one", was)
		}
	}
}
