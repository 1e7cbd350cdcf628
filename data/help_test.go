package data

import (
	"scrimshaw/api"
	"slices"
	"strconv"
	"strings"
	"testing"
)

func boolean(n int) api.Datum             { return api.Datum{Kind: api.DatBool, Int: n} }
func number(n int) api.Datum              { return api.Datum{Kind: api.DatInt, Int: n} }
func char(n int) api.Datum                { return api.Datum{Kind: api.DatChar, Int: n} }
func str(s string) api.Datum              { return api.Datum{Kind: api.DatString, Text: s} }
func sym(s string) api.Datum              { return api.Datum{Kind: api.DatSymbol, Text: s} }
func list(l ...api.Datum) api.Datum       { return api.Datum{Kind: api.DatList, List: l} }
func dotted(l ...api.Datum) api.Datum     { return api.Datum{Kind: api.DatDotted, List: l} }
func vector(l ...api.Datum) api.Datum     { return api.Datum{Kind: api.DatVector, List: l} }
func row(l ...api.Datum) []api.Datum      { return l }
func withInt(d api.Datum) api.Datum       { d.Int = 1; return d }
func withText(d api.Datum) api.Datum      { d.Text = "a"; return d }
func withItem(d api.Datum) api.Datum      { d.List = row(number(1)); return d }
func withNoItems(d api.Datum) api.Datum   { d.List = make([]api.Datum, 0, 3); return d }
func ofKind(kind int) api.Datum           { return api.Datum{Kind: kind} }
func asKind(d api.Datum, k int) api.Datum { d.Kind = k; return d }

// nested has a datum within so many others.
func nested(depth int, d api.Datum) api.Datum {
	for range depth {
		d = list(d)
	}
	return d
}

// looped is within itself.
func looped(kind int) api.Datum {
	l := row(number(1), number(2), number(3))
	d := api.Datum{Kind: kind, List: l}
	l[1] = d
	return d
}

// raw tells all of a datum, field by field, by none of this package's functions.
func raw(d api.Datum) string {
	var out strings.Builder
	out.WriteString("{" + strconv.Itoa(d.Kind) + " " + strconv.Itoa(d.Int) + " " + strconv.Quote(d.Text))
	for _, item := range d.List {
		out.WriteString(" " + raw(item))
	}
	out.WriteString("}")
	return out.String()
}

func rawRow(l []api.Datum) string { return raw(list(l...)) }

// spoil changes all the memory that a row of data has, what lies behind its end too.
func spoil(l []api.Datum) {
	for _, d := range l {
		spoil(d.List)
	}
	l = l[:cap(l)]
	for i := range l {
		l[i] = str("spoilt")
	}
}

// someData are data that may be, such as are alike in one way or another.
func someData() []api.Datum {
	atoms := row(boolean(0), boolean(1), number(0), number(1), number(-1), number(12), char('a'), char('1'), char(' '), char('"'), char('x'), char(0x41), char('('), char(10), char(0xff),
		str(""), str("a"), str("1"), str(" "), str("\""), str("\\"), str("\n"), str("\\n"), str("n"), str("\x01"), str("\\x01"), str("x01"), str("a b"), str("a\" \"b"), str("(a)"), str("#t"), str("."),
		sym("a"), sym("b"), sym("ab"), sym("1+"), sym("-"), sym("+"), sym("..."), sym("quote"), sym("x41"), sym("t"))
	few := row(number(1), sym("a"), str("a"), list(), vector(), list(sym("a")), dotted(sym("a"), number(1)), vector(sym("a")))
	all := slices.Concat(atoms, few)
	for _, a := range slices.Concat(atoms, few) {
		all = append(all, list(a), vector(a), list(list(a)), list(vector(a)), vector(list(a)))
		for _, b := range few {
			all = append(all, list(a, b), vector(a, b), list(a, list(b)), list(list(a), b))
			if mayBeLast(b) {
				all = append(all, dotted(a, b))
			}
			for _, c := range few {
				all = append(all, list(a, b, c), vector(a, b, c), list(list(a, b), c), list(a, list(b, c)))
				if mayBeLast(c) {
					all = append(all, dotted(a, b, c), list(a, dotted(b, c)))
				}
			}
		}
	}
	return all
}

func mayBeLast(d api.Datum) bool { return d.Kind != api.DatList && d.Kind != api.DatDotted }

// oddData may not be, each for a reason of its own.
func oddData() []api.Datum {
	return row(ofKind(-1), ofKind(api.DatKinds), withItem(withText(withInt(ofKind(9)))), boolean(2), boolean(-1), withText(boolean(1)), withItem(boolean(1)),
		number(api.MaxInt+1), number(-api.MaxInt-2), withText(number(1)), withItem(number(1)), char(-1), char(256), withText(char(1)), withItem(char(1)),
		str(strings.Repeat("a", 4097)), withInt(str("")), withItem(str("")), sym(""), sym("."), sym("5"), sym("a b"), withInt(sym("a")), withItem(sym("a")),
		withInt(list()), withText(list()), withInt(vector()), withText(vector()), dotted(), dotted(number(1)), dotted(number(1), list()), dotted(number(1), dotted(number(2), number(3))),
		withInt(dotted(number(1), number(2))), withText(dotted(number(1), number(2))), list(ofKind(9)), nested(33, number(1)))
}

func TestDataOfTheTests(t *testing.T) {
	for _, d := range someData() {
		if e := Check(d); e != api.OK {
			t.Errorf("%s: %v", raw(d), e)
		}
	}
	for _, d := range oddData() {
		if e := Check(d); e == api.OK {
			t.Errorf("%s: OK", raw(d))
		}
	}
}
