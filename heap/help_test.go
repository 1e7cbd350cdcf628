package heap

import (
	"math"
	"scrimshaw/api"
	"strconv"
	"strings"
	"testing"
)

var (
	no    = api.Val{Kind: api.ValBool}
	yes   = api.Val{Kind: api.ValBool, Int: 1}
	null  = api.Val{Kind: api.ValNull}
	void  = api.Val{Kind: api.ValVoid}
	eof   = api.Val{Kind: api.ValEof}
	unset = api.Val{Kind: api.ValUnset}
)

func num(n int) api.Val           { return api.Val{Kind: api.ValInt, Int: n} }
func chr(n int) api.Val           { return api.Val{Kind: api.ValChar, Int: n} }
func sym(s string) api.Val        { return api.Val{Kind: api.ValSymbol, Text: s} }
func thing(n int) api.Val         { return api.Val{Kind: api.ValThing, Int: n} }
func vals(l ...api.Val) []api.Val { return l }
func many(n int, v api.Val) []api.Val {
	var l []api.Val
	for range n {
		l = append(l, v)
	}
	return l
}

func datInt(n int) api.Datum          { return api.Datum{Kind: api.DatInt, Int: n} }
func datChar(n int) api.Datum         { return api.Datum{Kind: api.DatChar, Int: n} }
func datSym(s string) api.Datum       { return api.Datum{Kind: api.DatSymbol, Text: s} }
func datText(s string) api.Datum      { return api.Datum{Kind: api.DatString, Text: s} }
func list(l ...api.Datum) api.Datum   { return api.Datum{Kind: api.DatList, List: l} }
func dotted(l ...api.Datum) api.Datum { return api.Datum{Kind: api.DatDotted, List: l} }
func vector(l ...api.Datum) api.Datum { return api.Datum{Kind: api.DatVector, List: l} }

// raw tells all of a datum, field by field.
func raw(d api.Datum) string {
	var out strings.Builder
	out.WriteString("{" + strconv.Itoa(d.Kind) + " " + strconv.Itoa(d.Int) + " " + strconv.Quote(d.Text))
	for _, item := range d.List {
		out.WriteString(" " + raw(item))
	}
	out.WriteString("}")
	return out.String()
}

func rawVal(v api.Val) string {
	return "<" + strconv.Itoa(v.Kind) + " " + strconv.Itoa(v.Int) + " " + strconv.Quote(v.Text) + ">"
}

func rawVals(l []api.Val) string {
	var out strings.Builder
	for _, v := range l {
		out.WriteString(rawVal(v))
	}
	return out.String()
}

func rawThing(x api.Thing) string { return strconv.Itoa(x.Kind) + ":" + rawVals(x.Parts) }

// state tells all of a heap, by its calls alone.
func state(h *Heap) string {
	var out strings.Builder
	out.WriteString(strconv.Itoa(h.Count()))
	for i := range h.Count() {
		x, _ := h.Thing(thing(i))
		out.WriteString("\n" + rawThing(x))
	}
	return out.String()
}

// The things of what some makes, by their numbers.
const (
	somePair = iota
	someVector
	someText
	someBox
	someProc
	noVector
	noText
	noProc
	someCount
)

// some is a heap with a thing of each kind, and empty ones.
func some(t *testing.T) *Heap {
	t.Helper()
	h := New()
	must(t, h, api.ThingPair, num(1), num(2))
	must(t, h, api.ThingVector, num(3), sym("a"), thing(0))
	must(t, h, api.ThingString, chr(97), chr(98))
	must(t, h, api.ThingBox, num(4))
	must(t, h, api.ThingProc, num(5), null)
	must(t, h, api.ThingVector)
	must(t, h, api.ThingString)
	must(t, h, api.ThingProc)
	return h
}

// must makes a thing that may be.
func must(t *testing.T, h *Heap, kind int, parts ...api.Val) api.Val {
	t.Helper()
	v, e := h.Make(kind, parts)
	if e != api.OK || v != thing(h.Count()-1) {
		t.Fatalf("Make(%d, %s): %s, %v", kind, rawVals(parts), rawVal(v), e)
	}
	return v
}

// do does what can't fail.
func do(t *testing.T, h *Heap, prim string, args ...api.Val) api.Val {
	t.Helper()
	v, e := h.Do(prim, args)
	if e != api.OK {
		t.Fatalf("Do(%s, %s): %v", prim, rawVals(args), e)
	}
	return v
}

// each are values of a heap that some makes, of all kinds and at all bounds.
func each() []api.Val {
	l := vals(no, yes, null, void, eof, unset, chr(0), chr(65), chr(255), sym("a"), sym("1+"), sym(strings.Repeat("z", 64)), sym("eof"))
	for _, n := range []int{0, 1, -1, 2, 255, 256, 1000, api.MaxInt, -api.MaxInt - 1} {
		l = append(l, num(n))
	}
	for i := range someCount {
		l = append(l, thing(i))
	}
	return l
}

// odd are no values of a heap that some makes.
func odd() []api.Val {
	var l []api.Val
	for _, kind := range []int{-1, api.ValKinds, api.ValKinds + 1, math.MaxInt, math.MinInt} {
		l = append(l, api.Val{Kind: kind}, api.Val{Kind: kind, Int: 1}, api.Val{Kind: kind, Text: "a"})
	}
	for _, n := range []int{-1, 2, 255, math.MaxInt, math.MinInt} {
		l = append(l, api.Val{Kind: api.ValBool, Int: n})
	}
	for _, n := range []int{api.MaxInt + 1, -api.MaxInt - 2, math.MaxInt, math.MinInt} {
		l = append(l, num(n))
	}
	for _, n := range []int{-1, 256, math.MaxInt, math.MinInt} {
		l = append(l, chr(n))
	}
	for _, s := range []string{"", ".", "5", "-5", "+0", "a b", "a\x00", "\xc3\xa4", "(", strings.Repeat("z", 65), strings.Repeat("z", 5000)} {
		l = append(l, sym(s))
	}
	for _, kind := range []int{api.ValNull, api.ValVoid, api.ValEof, api.ValUnset} {
		l = append(l, api.Val{Kind: kind, Int: 1}, api.Val{Kind: kind, Int: -1}, api.Val{Kind: kind, Text: "a"})
	}
	for _, n := range []int{-1, someCount, someCount + 1, math.MaxInt, math.MinInt} {
		l = append(l, thing(n))
	}
	for _, v := range vals(no, yes, num(0), num(1), chr(65), thing(0)) {
		v.Text = "a"
		l = append(l, v)
	}
	return append(l, api.Val{Kind: api.ValSymbol, Int: 1, Text: "a"}, api.Val{Kind: api.ValSymbol, Int: -1, Text: "a"})
}
