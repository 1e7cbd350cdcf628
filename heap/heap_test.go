package heap

import (
	"math"
	"runtime"
	"scrimshaw/api"
	"slices"
	"strings"
	"testing"
)

// P8.1

func TestNewHeaps(t *testing.T) {
	h, other := New(), New()
	if h == nil || h.Count() != 0 || h == other {
		t.Fatal("a heap that is new")
	}
	if x, is := h.Thing(thing(0)); rawThing(x) != "0:" || is {
		t.Error(x, is)
	}
	must(t, h, api.ThingBox, num(1))
	if h.Count() != 1 || other.Count() != 0 || New().Count() != 0 {
		t.Error("a heap has another one's thing")
	}
	if _, e := other.Make(api.ThingBox, vals(thing(0))); e != api.ErrArg {
		t.Error("a heap takes another one's value")
	}
	must(t, other, api.ThingBox, num(2))
	a, _ := h.Thing(thing(0))
	b, _ := other.Thing(thing(0))
	if rawThing(a) != rawThing(api.Thing{Kind: api.ThingBox, Parts: vals(num(1))}) || rawThing(b) != rawThing(api.Thing{Kind: api.ThingBox, Parts: vals(num(2))}) {
		t.Error(a, b)
	}
}

func TestHowManyParts(t *testing.T) {
	for _, n := range []int{0, 1, 2, 3, 4, 999, 1000, 1001, 1002, 5000} {
		may := map[int]bool{api.ThingPair: n == 2, api.ThingVector: n <= 1000, api.ThingString: n <= 1000, api.ThingBox: n == 1, api.ThingProc: true}
		for _, kind := range []int{-1, 0, 1, 2, 3, 4, 5, 6, math.MaxInt, math.MinInt} {
			h := New()
			parts := many(n, chr(7))
			v, e := h.Make(kind, parts)
			x, is := h.Thing(thing(0))
			if may[kind] {
				if v != thing(0) || e != api.OK || h.Count() != 1 || !is || x.Kind != kind || !slices.Equal(x.Parts, parts) {
					t.Errorf("Make(%d, %d parts): %v, %v, %v, %v", kind, n, v, e, h.Count(), is)
				}
			} else if v != (api.Val{}) || e != api.ErrArg || h.Count() != 0 || is || x.Kind != 0 || len(x.Parts) != 0 {
				t.Errorf("Make(%d, %d parts): %v, %v, %v, %v", kind, n, v, e, h.Count(), is)
			}
		}
	}
}

func TestWhichParts(t *testing.T) {
	for _, kind := range []int{api.ThingPair, api.ThingVector, api.ThingString, api.ThingBox, api.ThingProc} {
		size := map[int]int{api.ThingPair: 2, api.ThingBox: 1}[kind]
		if size == 0 {
			size = 4
		}
		for at := range size {
			for _, v := range each() {
				parts := many(size, chr(7))
				parts[at] = v
				h := some(t)
				made, e := h.Make(kind, parts)
				if kind == api.ThingString && v.Kind != api.ValChar {
					if made != (api.Val{}) || e != api.ErrArg || h.Count() != someCount {
						t.Errorf("Make(%d, %s): %v, %v", kind, rawVals(parts), made, e)
					}
					continue
				}
				x, is := h.Thing(made)
				if made != thing(someCount) || e != api.OK || h.Count() != someCount+1 || !is || x.Kind != kind || !slices.Equal(x.Parts, parts) {
					t.Errorf("Make(%d, %s): %v, %v", kind, rawVals(parts), made, e)
				}
			}
			for _, v := range odd() {
				parts := many(size, chr(7))
				parts[at] = v
				h := some(t)
				was := state(h)
				if made, e := h.Make(kind, parts); made != (api.Val{}) || e != api.ErrArg || state(h) != was {
					t.Errorf("Make(%d, %s): %v, %v", kind, rawVals(parts), made, e)
				}
			}
		}
	}
	// A thing is none of the heap's while it is made.
	h := some(t)
	if _, e := h.Make(api.ThingBox, vals(thing(h.Count()))); e != api.ErrArg {
		t.Error(e)
	}
}

func TestNumbersOfThings(t *testing.T) {
	h := New()
	for i := 0; i < 60; i += 6 {
		must(t, h, api.ThingProc)
		must(t, h, api.ThingPair, num(1), num(1))
		for j, v := range vals(do(t, h, "cons", num(1), num(1)), do(t, h, "make-vector", num(0), no), do(t, h, "make-string", num(0), chr(0)), do(t, h, "%box", no)) {
			if v != thing(i+2+j) {
				t.Errorf("%d, %d: %v", i, j, v)
			}
		}
		// What fails makes nothing.
		h.Make(api.ThingPair, nil)
		h.Do("cons", vals(num(1)))
		h.Do("make-vector", vals(num(-1), no))
		h.Do("make-string", vals(num(1), no))
		if h.Count() != i+6 {
			t.Errorf("%d: %d", i, h.Count())
		}
	}
}

func TestThings(t *testing.T) {
	h := some(t)
	for i, want := range []api.Thing{{Kind: api.ThingPair, Parts: vals(num(1), num(2))}, {Kind: api.ThingVector, Parts: vals(num(3), sym("a"), thing(0))}, {Kind: api.ThingString, Parts: vals(chr(97), chr(98))}, {Kind: api.ThingBox, Parts: vals(num(4))}, {Kind: api.ThingProc, Parts: vals(num(5), null)}, {Kind: api.ThingVector}, {Kind: api.ThingString}, {Kind: api.ThingProc}} {
		if x, is := h.Thing(thing(i)); rawThing(x) != rawThing(want) || !is {
			t.Errorf("%d: %v, %v", i, x, is)
		}
	}
	for _, v := range append(each(), odd()...) {
		if slices.Contains(each(), v) && v.Kind == api.ValThing {
			continue
		}
		if x, is := h.Thing(v); x.Kind != 0 || len(x.Parts) != 0 || is {
			t.Errorf("%s: %v, %v", rawVal(v), x, is)
		}
	}
}

func TestNothingIsSharedWithAHeap(t *testing.T) {
	for _, kind := range []int{api.ThingPair, api.ThingVector, api.ThingString, api.ThingProc} {
		h := New()
		behind := append(make([]api.Val, 0, 9), chr(1), chr(2), chr(3), chr(4))
		parts := behind[:2]
		v := must(t, h, kind, parts...)
		want := rawThing(api.Thing{Kind: kind, Parts: vals(chr(1), chr(2))})
		behind[0], behind[1] = chr(9), chr(9)
		a, _ := h.Thing(v)
		if rawThing(a) != want {
			t.Errorf("%d: %v", kind, a)
		}
		a.Parts[0] = num(8)
		a.Parts = append(a.Parts[:1], num(8), num(8))
		if b, _ := h.Thing(v); rawThing(b) != want || rawVals(behind) != rawVals(vals(chr(9), chr(9), chr(3), chr(4))) {
			t.Errorf("%d: %v, %v", kind, b, behind)
		}
	}
	h := New()
	args := vals(num(1), num(2))
	pair, box := do(t, h, "cons", args...), do(t, h, "%box", args[:1]...)
	first, second := do(t, h, "make-vector", num(2), num(1)), do(t, h, "make-vector", num(2), num(1))
	args[0] = num(9)
	do(t, h, "vector-set!", first, num(0), num(5))
	do(t, h, "set-cdr!", pair, num(7))
	for v, want := range map[api.Val]string{pair: rawVals(vals(num(1), num(7))), box: rawVals(vals(num(1))), first: rawVals(vals(num(5), num(1))), second: rawVals(vals(num(1), num(1)))} {
		if x, _ := h.Thing(v); rawVals(x.Parts) != want {
			t.Errorf("%v: %v", v, x)
		}
	}
	if rawVals(args) != rawVals(vals(num(9), num(2))) {
		t.Error(args)
	}
}

// P1: also of no heap, and of one that New did not make.
func TestNoHeap(t *testing.T) {
	var none *Heap
	if none.Count() != 0 {
		t.Error("Count")
	}
	for _, v := range append(each(), odd()...) {
		if x, is := none.Thing(v); x.Kind != 0 || len(x.Parts) != 0 || is {
			t.Error(v, x, is)
		}
		if d, is := none.Tell(v); raw(d) != raw(api.Datum{}) || is {
			t.Error(v, d, is)
		}
		if w, e := none.Make(api.ThingBox, vals(v)); w != (api.Val{}) || e != api.ErrArg {
			t.Error(v, w, e)
		}
		if w, e := none.Do("%box", vals(v)); w != (api.Val{}) || e != api.ErrArg {
			t.Error(v, w, e)
		}
	}
	if v, e := none.Make(api.ThingProc, nil); v != (api.Val{}) || e != api.ErrArg {
		t.Error(v, e)
	}
	wantDone(t, none, "void", nil, void)
	wantDone(t, none, "%unset", nil, unset)
	wantFails(t, none, "car", nil, api.ErrArg)
	h := &Heap{}
	if v := do(t, h, "cons", num(1), null); v != thing(0) || h.Count() != 1 {
		t.Error(v)
	}
}

// P8.4

func TestConst(t *testing.T) {
	for _, c := range []struct {
		d api.Datum
		v api.Val
	}{
		{api.Datum{}, no}, {api.Datum{Kind: api.DatBool, Int: 1}, yes},
		{datInt(0), num(0)}, {datInt(-7), num(-7)}, {datInt(api.MaxInt), num(api.MaxInt)}, {datInt(-api.MaxInt - 1), num(-api.MaxInt - 1)},
		{datChar(0), chr(0)}, {datChar(65), chr(65)}, {datChar(255), chr(255)},
		{datSym("a"), sym("a")}, {datSym("1+"), sym("1+")}, {datSym("..."), sym("...")}, {datSym(strings.Repeat("z", 64)), sym(strings.Repeat("z", 64))},
		{list(), null}, {api.Datum{Kind: api.DatList, List: []api.Datum{}}, null}, {api.Datum{Kind: api.DatInt, Int: 5, List: []api.Datum{}}, num(5)},
	} {
		if v, is := Const(c.d); v != c.v || !is {
			t.Errorf("%s: %s, %v", raw(c.d), rawVal(v), is)
		}
	}
}

func TestDataOfNoConst(t *testing.T) {
	within := list(datInt(1), datInt(2))
	within.List[1] = within
	for _, d := range []api.Datum{
		datText(""), datText("a"), vector(), vector(datInt(1)), list(datInt(1)), list(list()), dotted(datInt(1), datInt(2)), dotted(), within, list(slices.Repeat([]api.Datum{datInt(1)}, 300000)...),
		{Kind: -1}, {Kind: api.DatKinds}, {Kind: math.MaxInt}, {Kind: api.DatBool, Int: 2}, {Kind: api.DatBool, Int: -1}, {Text: "a"}, {List: []api.Datum{datInt(1)}},
		datInt(api.MaxInt + 1), datInt(-api.MaxInt - 2), {Kind: api.DatInt, Int: 1, Text: "a"}, {Kind: api.DatInt, Int: 1, List: []api.Datum{datInt(1)}},
		datChar(-1), datChar(256), {Kind: api.DatChar, Int: 65, Text: "a"}, {Kind: api.DatChar, List: []api.Datum{{}}},
		datSym(""), datSym("."), datSym("5"), datSym("a b"), datSym(strings.Repeat("z", 65)), {Kind: api.DatSymbol, Int: 1, Text: "a"}, {Kind: api.DatSymbol, Text: "a", List: []api.Datum{{}}},
		{Kind: api.DatList, Int: 1}, {Kind: api.DatList, Text: "a"},
	} {
		if v, is := Const(d); v != (api.Val{}) || is {
			t.Errorf("a datum of kind %d: %s, %v", d.Kind, rawVal(v), is)
		}
	}
}

// Whoever makes many things that are filled has room for them, and for what is put there.
func TestWhatIsFilledTakesLittleRoom(t *testing.T) {
	h := New()
	var was, is runtime.MemStats
	runtime.ReadMemStats(&was)
	for i := range 20000 {
		v := do(t, h, "make-vector", num(1000), num(i))
		text := do(t, h, "make-string", num(1000), chr(65))
		do(t, h, "vector-set!", v, num(i%1000), text)
		do(t, h, "string-set!", text, num(999), chr(66))
	}
	runtime.ReadMemStats(&is)
	if room := is.TotalAlloc - was.TotalAlloc; room > 100<<20 {
		t.Errorf("%d bytes", room)
	}
	for i, text := range []int{1, 19999, 39999} {
		v := thing(text - 1)
		n := text / 2
		at := n % 1000
		other := (at + 1) % 1000
		if do(t, h, "vector-ref", v, num(at)) != thing(text) || do(t, h, "vector-ref", v, num(other)) != num(n) || do(t, h, "string-ref", thing(text), num(998)) != chr(65) || do(t, h, "string-ref", thing(text), num(999)) != chr(66) {
			t.Error(i)
		}
	}
	runtime.KeepAlive(h)
}
