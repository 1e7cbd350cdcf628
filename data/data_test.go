package data

import (
	"math"
	"scrimshaw/api"
	"slices"
	"strings"
	"testing"
)

const allNameBytes = "abcdefghijklmnopqrstuvwxyzABCDEFGHIJKLMNOPQRSTUVWXYZ0123456789!$%&*/:<=>?^_~+-.@"

// P2.1, of Name

func TestNameOfEachByte(t *testing.T) {
	for b := range 256 {
		one := string([]byte{byte(b)})
		in := strings.Contains(allNameBytes, one)
		if want := in && !strings.Contains("0123456789.", one); Name(one) != want {
			t.Errorf("Name(%q): %v", one, !want)
		}
		for _, s := range []string{one + "ab", "a" + one + "b", "ab" + one, strings.Repeat("a", 63) + one} {
			if Name(s) != in {
				t.Errorf("Name(%q): %v", s, !in)
			}
		}
	}
}

func TestNames(t *testing.T) {
	for _, s := range []string{"a", "Z", "+", "-", "++", "+-", "--", "-+5", "--5", "+-5", "1+", "5-", "1-1", "-5-", "+5a", "-5.", "+.", "-.", "..", "...", ".5", "5.", "1.5", "-1.5", "1/2", "1e3", "0x1", "a.b", "@", "!", "x.0", "%box", "call/cc", "set!", "<=?", "~a", "5a", strings.Repeat("0", 63) + "a"} {
		if !Name(s) {
			t.Errorf("Name(%q): false", s)
		}
	}
	for _, s := range []string{"", ".", "0", "5", "007", "1234567890", "+5", "-5", "+0", "-0", "-007", "a b", " a", "a ", "a\n", "(a", "a)", "'a", "#a", "#t", "a#", "a\"", "a;", "a,b", "[a]", "{a}", "a|", "\\a", "`a", "a\x00", "a\x7f", "a\x80", "\xff", "ä", "aä", "λ", "٣"} {
		if Name(s) {
			t.Errorf("Name(%q): true", s)
		}
	}
}

func TestNameOfEachLength(t *testing.T) {
	for n := range 70 {
		in := n >= 1 && n <= 64
		for _, s := range []string{strings.Repeat("a", n), strings.Repeat("+", n), strings.Repeat("5", max(n-1, 0)) + strings.Repeat("a", min(n, 1))} {
			if Name(s) != in {
				t.Errorf("Name(%q) of %d bytes: %v", s, n, !in)
			}
		}
		for _, s := range []string{strings.Repeat("5", n), "+" + strings.Repeat("5", n), "-" + strings.Repeat("0", n)} {
			if want := s == "+" || s == "-"; Name(s) != want {
				t.Errorf("Name(%q): %v", s, !want)
			}
		}
	}
	if Name(strings.Repeat("a", 4096)) || Name(strings.Repeat("a", 1<<24)) {
		t.Error("a name of far too many bytes")
	}
}

// P2.1, of Check

func TestCheckOfOneDatum(t *testing.T) {
	for _, d := range row(boolean(0), boolean(1), number(0), number(api.MaxInt), number(-api.MaxInt-1), char(0), char(10), char(32), char(33), char(126), char(127), char(255),
		str(""), str("\x00\xff\n"), str(strings.Repeat("\"", 4096)), sym("a"), sym("1+"), sym("-"), sym(strings.Repeat("a", 64)),
		list(), list(number(1)), vector(), vector(list(), list()), dotted(number(1), number(2)), dotted(list(), vector()), dotted(dotted(number(1), number(2)), list(), str("")), dotted(list(number(1)), vector(list()))) {
		if e := Check(d); e != api.OK {
			t.Errorf("%s: %v", raw(d), e)
		}
	}
	for _, d := range row(boolean(-1), boolean(2), boolean(math.MinInt), number(api.MaxInt+1), number(-api.MaxInt-2), number(math.MaxInt), number(math.MinInt), char(-1), char(256), char(math.MaxInt), char(math.MinInt),
		str(strings.Repeat("a", 4097)), str(strings.Repeat("a", 1<<24)), sym(""), sym("."), sym("5"), sym("-5"), sym("+5"), sym("a b"), sym(strings.Repeat("a", 65)),
		dotted(), dotted(number(1)), dotted(list()), dotted(number(1), list()), dotted(number(1), list(number(2))), dotted(number(1), number(2), list()), dotted(number(1), dotted(number(2), number(3))), dotted(number(1), dotted()),
		ofKind(api.DatKinds), ofKind(9), ofKind(-1), ofKind(math.MaxInt), ofKind(math.MinInt), asKind(list(number(1)), api.DatKinds), asKind(list(number(1)), -1)) {
		if e := Check(d); e != api.ErrDataForm {
			t.Errorf("%s: %v", raw(d), e)
		}
	}
}

func TestCheckOfFieldsThatAKindHasNot(t *testing.T) {
	for _, d := range row(boolean(0), boolean(1), number(0), number(1), char(0), char(65)) {
		for _, odd := range row(withText(d), withItem(d), withItem(withText(d))) {
			if e := Check(odd); e != api.ErrDataForm {
				t.Errorf("%s: %v", raw(odd), e)
			}
		}
	}
	for _, d := range row(str(""), str("a"), sym("a")) {
		for _, odd := range row(withInt(d), withItem(d), api.Datum{Kind: d.Kind, Int: -1, Text: d.Text}) {
			if e := Check(odd); e != api.ErrDataForm {
				t.Errorf("%s: %v", raw(odd), e)
			}
		}
	}
	for _, d := range row(list(), list(number(1)), vector(), vector(number(1)), dotted(number(1), number(2))) {
		for _, odd := range row(withInt(d), withText(d), api.Datum{Kind: d.Kind, Int: -1, List: d.List}) {
			if e := Check(odd); e != api.ErrDataForm {
				t.Errorf("%s: %v", raw(odd), e)
			}
		}
	}
}

func TestCheckTakesAnEmptyListForNone(t *testing.T) {
	for _, d := range row(boolean(1), number(1), char(1), str("a"), sym("a"), list(), vector()) {
		if e := Check(withNoItems(d)); e != api.OK {
			t.Errorf("%s: %v", raw(d), e)
		}
	}
	if e := Check(withNoItems(dotted())); e != api.ErrDataForm {
		t.Error(e)
	}
}

func TestCheckOfWhatIsDeep(t *testing.T) {
	for _, d := range row(number(1), str("a"), sym("a")) {
		if e := Check(nested(32, d)); e != api.OK {
			t.Errorf("%s within 32: %v", raw(d), e)
		}
		if e := Check(nested(33, d)); e != api.ErrDataDeep {
			t.Errorf("%s within 33: %v", raw(d), e)
		}
	}
	for _, d := range row(list(), vector(), dotted(number(1), number(2)), list(number(1))) {
		if e := Check(nested(31, d)); e != api.OK {
			t.Errorf("%s within 31: %v", raw(d), e)
		}
		if e := Check(nested(32, d)); e != api.ErrDataDeep {
			t.Errorf("%s within 32: %v", raw(d), e)
		}
	}
	mixed := number(1)
	for i := range 32 {
		mixed = row(list(mixed), vector(mixed), dotted(mixed, number(1)), list(number(1), mixed))[i%4]
	}
	if e := Check(mixed); e != api.OK {
		t.Errorf("32 of all kinds: %v", e)
	}
	for _, d := range row(list(mixed), vector(mixed), dotted(mixed, number(1)), dotted(number(1), vector(nested(31, number(1))))) {
		if e := Check(d); e != api.ErrDataDeep {
			t.Errorf("33 of all kinds: %v", e)
		}
	}
	if e := Check(dotted(number(1), vector(nested(30, number(1))))); e != api.OK {
		t.Errorf("32 in a tail: %v", e)
	}
	if e := Check(list(slices.Repeat(row(nested(31, number(1))), 100)...)); e != api.OK {
		t.Errorf("side by side: %v", e)
	}
}

func TestCheckOfMany(t *testing.T) {
	ones := func(n int) []api.Datum { return slices.Repeat(row(number(1)), n) }
	lists := func(n int) []api.Datum { return slices.Repeat(row(list()), n) }
	pairs := func(n int) []api.Datum { return slices.Repeat(row(dotted(number(1), number(2))), n) }
	for _, d := range row(list(ones(4095)...), vector(ones(4095)...), dotted(ones(4095)...), list(lists(4095)...), list(pairs(1365)...), list(vector(ones(2046)...), list(ones(2047)...)), vector(slices.Concat(ones(2000), row(list(ones(2094)...)))...)) {
		if e := Check(d); e != api.OK {
			t.Errorf("4096 data: %v", e)
		}
	}
	for _, d := range row(list(ones(4096)...), vector(ones(4096)...), dotted(ones(4096)...), list(lists(4096)...), list(append(pairs(1365), number(1))...), list(vector(ones(2047)...), list(ones(2047)...)), list(ones(200000)...)) {
		if e := Check(d); e != api.ErrDataMany {
			t.Errorf("more than 4096 data: %v", e)
		}
	}
}

func TestCheckOfSeveralErrors(t *testing.T) {
	ones := slices.Repeat(row(number(1)), 4095)
	deep, long, odd := nested(33, number(1)), list(slices.Repeat(row(number(1)), 4096)...), ofKind(9)
	for _, c := range []struct {
		name string
		d    api.Datum
		want api.Errno
	}{
		{"many ahead of form", list(append(slices.Clone(ones), odd)...), api.ErrDataMany},
		{"many ahead of form in the tail", dotted(append(slices.Clone(ones), odd)...), api.ErrDataMany},
		{"many ahead of deep", list(slices.Concat(ones[:4095-31], row(nested(32, list())))...), api.ErrDataMany},
		{"deep, as there is room for one", list(slices.Concat(ones[:4094-31], row(nested(32, list())))...), api.ErrDataDeep},
		{"deep ahead of form", nested(32, withInt(list())), api.ErrDataDeep},
		{"deep ahead of a dotted datum's form", nested(32, dotted()), api.ErrDataDeep},
		{"form of what has no items, however deep", nested(32, odd), api.ErrDataForm},
		{"form of an atom, however deep", nested(32, withText(number(1))), api.ErrDataForm},
		{"form of an atom with items, however deep", nested(32, withItem(number(1))), api.ErrDataForm},
		{"deep, then form", list(deep, odd), api.ErrDataDeep},
		{"form, then deep", list(odd, deep), api.ErrDataForm},
		{"deep, then many", list(deep, long), api.ErrDataDeep},
		{"many, then deep", list(long, deep), api.ErrDataMany},
		{"form, then many", list(odd, long), api.ErrDataForm},
		{"many, then form", list(long, odd), api.ErrDataMany},
		{"form of the last that is looked at", list(append(slices.Clone(ones[:4094]), odd, number(1), number(1))...), api.ErrDataForm},
		{"a datum ahead of its items", withInt(list(deep)), api.ErrDataForm},
		{"a dotted datum ahead of its items", dotted(deep, list()), api.ErrDataForm},
		{"a dotted datum ahead of many", dotted(long, list()), api.ErrDataForm},
		{"an item ahead of the next one's items", list(list(deep), withInt(list(long))), api.ErrDataDeep},
		{"an item's items ahead of the next item", list(list(odd), deep), api.ErrDataForm},
		{"an item ahead of the tail", dotted(deep, odd), api.ErrDataDeep},
		{"the tail behind the items", dotted(number(1), odd), api.ErrDataForm},
		{"what has no items, with items", asKind(list(deep), api.DatSymbol), api.ErrDataForm},
		{"what there is not, with items", asKind(list(deep), 8), api.ErrDataForm},
	} {
		if e := Check(c.d); e != c.want {
			t.Errorf("%s: %v, want %v", c.name, e, c.want)
		}
	}
}

func TestCheckEndsWithinItself(t *testing.T) {
	for _, kind := range []int{api.DatList, api.DatDotted, api.DatVector} {
		d := looped(kind)
		if e := Check(d); e != api.ErrDataDeep {
			t.Errorf("%d: %v", kind, e)
		}
		for _, call := range []func(api.Datum) (string, api.Errno){Text, Show} {
			if s, e := call(d); s != "" || e != api.ErrDataDeep {
				t.Errorf("%d: %q, %v", kind, s, e)
			}
		}
	}
	wide := list(number(1))
	for range 31 {
		wide = list(wide, wide, wide, wide)
	}
	if e := Check(wide); e != api.ErrDataMany {
		t.Error(e)
	}
	if s, e := Text(wide); s != "" || e != api.ErrDataMany {
		t.Error(s, e)
	}
}

// P2.2, of Equal

func TestEqual(t *testing.T) {
	for _, c := range []struct {
		a, b api.Datum
		want bool
	}{
		{api.Datum{}, boolean(0), true},
		{number(1), number(1), true},
		{number(1), number(2), false},
		{number(1), boolean(1), false},
		{number(1), char(1), false},
		{str("a"), str("a"), true},
		{str("a"), str("b"), false},
		{str("a"), sym("a"), false},
		{str(""), str("a"), false},
		{list(), vector(), false},
		{list(), withNoItems(list()), true},
		{withNoItems(number(1)), number(1), true},
		{list(number(1)), list(number(1)), true},
		{list(number(1)), list(number(2)), false},
		{list(number(1)), list(), false},
		{list(number(1)), list(number(1), number(2)), false},
		{list(number(1), number(2)), list(number(1)), false},
		{list(number(1), number(2)), list(number(2), number(1)), false},
		{list(number(1), number(2)), dotted(number(1), number(2)), false},
		{list(number(1), list(str("a"), list())), list(number(1), list(str("a"), list())), true},
		{list(number(1), list(str("a"), list())), list(number(1), list(str("a"), vector())), false},
		{list(list(list(number(1)), number(2))), list(list(list(number(3)), number(2))), false},
		{withText(number(1)), number(1), false},
		{withText(number(1)), withText(number(1)), true},
		{withInt(str("a")), str("a"), false},
		{withItem(number(1)), number(1), false},
		{withItem(number(1)), withItem(number(1)), true},
		{withItem(withText(withInt(ofKind(-3)))), withItem(withText(withInt(ofKind(-3)))), true},
		{ofKind(9), ofKind(8), false},
		{number(math.MinInt), number(math.MinInt), true},
	} {
		if Equal(c.a, c.b) != c.want || Equal(c.b, c.a) != c.want {
			t.Errorf("Equal(%s, %s): not %v", raw(c.a), raw(c.b), c.want)
		}
	}
}

func TestEqualOfAllPairs(t *testing.T) {
	all := slices.Concat(oddData(), someData()[:400])
	told := make([]string, len(all))
	for i, d := range all {
		told[i] = raw(d)
	}
	for i, a := range all {
		for j, b := range all {
			if want := told[i] == told[j]; Equal(a, b) != want {
				t.Errorf("Equal(%s, %s): not %v", told[i], told[j], want)
			}
		}
	}
}

func TestWhatIsDeepOrLongIsAnswered(t *testing.T) {
	for _, d := range row(nested(99000, number(1)), list(slices.Repeat(row(str("a")), 99000)...)) {
		if !Equal(d, d) || Equal(d, list(d.List[0], number(2))) {
			t.Error("Equal")
		}
		if items, tail := Items(d); len(items) != len(d.List) || raw(tail) != raw(list()) {
			t.Error("Items")
		}
		if !Equal(Make(nil, d), d) || !Equal(Make(d.List, list()), d) {
			t.Error("Make")
		}
		if e := Check(d); e == api.OK {
			t.Error("Check")
		}
	}
}
