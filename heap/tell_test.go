package heap

import (
	"scrimshaw/api"
	"scrimshaw/data"
	"slices"
	"testing"
)

// P8.3

func wantTold(t *testing.T, h *Heap, v api.Val, want api.Datum) {
	t.Helper()
	was := state(h)
	if d, is := h.Tell(v); raw(d) != raw(want) || !is {
		t.Errorf("Tell(%s): %s, %v; want %s", rawVal(v), raw(d), is, raw(want))
	}
	if state(h) != was {
		t.Error("Tell changes the heap")
	}
}

func wantUntold(t *testing.T, h *Heap, v api.Val) {
	t.Helper()
	if d, is := h.Tell(v); raw(d) != raw(api.Datum{}) || is {
		t.Errorf("Tell(%s): %.300s, %v", rawVal(v), raw(d), is)
	}
}

// listed is a list, of the heap's pairs, of values with a tail.
func listed(t *testing.T, h *Heap, l []api.Val, tail api.Val) api.Val {
	t.Helper()
	for i := range l {
		tail = do(t, h, "cons", l[len(l)-1-i], tail)
	}
	return tail
}

func TestTellOfNoThings(t *testing.T) {
	for _, h := range []*Heap{New(), some(t)} {
		wantTold(t, h, no, api.Datum{Kind: api.DatBool})
		wantTold(t, h, yes, api.Datum{Kind: api.DatBool, Int: 1})
		for _, n := range []int{0, 7, -7, api.MaxInt, -api.MaxInt - 1} {
			wantTold(t, h, num(n), datInt(n))
		}
		for _, n := range []int{0, 65, 255} {
			wantTold(t, h, chr(n), datChar(n))
		}
		wantTold(t, h, sym("a"), datSym("a"))
		wantTold(t, h, sym("void"), datSym("void"))
		wantTold(t, h, null, list())
		wantTold(t, h, void, datSym("void"))
		wantTold(t, h, eof, datSym("eof"))
		wantTold(t, h, unset, datSym("unset"))
	}
}

func TestTellOfNoValues(t *testing.T) {
	h := some(t)
	for _, v := range odd() {
		wantUntold(t, h, v)
	}
	wantUntold(t, New(), thing(0))
}

func TestTellOfThings(t *testing.T) {
	h := some(t)
	wantTold(t, h, thing(somePair), dotted(datInt(1), datInt(2)))
	wantTold(t, h, thing(someVector), vector(datInt(3), datSym("a"), dotted(datInt(1), datInt(2))))
	wantTold(t, h, thing(someText), datText("ab"))
	wantTold(t, h, thing(someBox), datSym("box"))
	wantTold(t, h, thing(someProc), datSym("procedure"))
	wantTold(t, h, thing(noProc), datSym("procedure"))
	wantTold(t, h, thing(noVector), vector())
	wantTold(t, h, thing(noText), datText(""))
	all := "" // of every byte
	var bytes []api.Val
	for n := range 256 {
		bytes = append(bytes, chr(n))
		all += string([]byte{byte(n)})
	}
	wantTold(t, h, must(t, h, api.ThingString, bytes...), datText(all))
}

func TestTellOfPairs(t *testing.T) {
	h := some(t)
	one, two, three := num(1), num(2), num(3)
	wantTold(t, h, listed(t, h, vals(one), null), list(datInt(1)))
	wantTold(t, h, listed(t, h, vals(one, two, three), null), list(datInt(1), datInt(2), datInt(3)))
	wantTold(t, h, listed(t, h, vals(one, two), three), dotted(datInt(1), datInt(2), datInt(3)))
	wantTold(t, h, listed(t, h, vals(null, listed(t, h, vals(one), null)), null), list(list(), list(datInt(1))))
	wantTold(t, h, listed(t, h, vals(listed(t, h, vals(one), two)), three), dotted(dotted(datInt(1), datInt(2)), datInt(3)))
	wantTold(t, h, listed(t, h, vals(one), thing(someVector)), dotted(datInt(1), vector(datInt(3), datSym("a"), dotted(datInt(1), datInt(2)))))
	wantTold(t, h, listed(t, h, vals(one), thing(noVector)), dotted(datInt(1), vector()))
	wantTold(t, h, listed(t, h, vals(one), thing(someText)), dotted(datInt(1), datText("ab")))
	wantTold(t, h, listed(t, h, vals(one, thing(someBox)), thing(someProc)), dotted(datInt(1), datSym("box"), datSym("procedure")))
	wantTold(t, h, listed(t, h, vals(void, eof), unset), dotted(datSym("void"), datSym("eof"), datSym("unset")))
}

// So many values are looked at: of a vector one more than its parts; of a list two for each item and one.
func TestTellOfMany(t *testing.T) {
	h := some(t)
	for n, is := range map[int]bool{0: true, 198: true, 199: true, 200: false, 201: false, 1000: false} {
		v := do(t, h, "make-vector", num(n), num(1))
		if d, told := h.Tell(v); told != is || is && len(d.List) != n || !is && raw(d) != raw(api.Datum{}) {
			t.Errorf("a vector of %d: %v, %d", n, told, len(d.List))
		}
	}
	for n, is := range map[int]bool{1: true, 98: true, 99: true, 100: false, 200: false, 3000: false} {
		v := listed(t, h, many(n, num(1)), null)
		if d, told := h.Tell(v); told != is || is && len(d.List) != n || !is && raw(d) != raw(api.Datum{}) {
			t.Errorf("a list of %d: %v, %d", n, told, len(d.List))
		}
	}
	// What stands there more than once is come to each time.
	in := do(t, h, "make-vector", num(8), num(1))
	for n, is := range map[int]bool{21: true, 22: true, 23: false} {
		v := do(t, h, "make-vector", num(n), in)
		if _, told := h.Tell(v); told != is {
			t.Errorf("a vector of %d others: %v", n, told)
		}
	}
	// A list about 190 of them has two more for each item, and one for its end.
	rest := do(t, h, "make-vector", num(21), in)
	items := append(many(4, num(1)), rest)
	want := append(slices.Repeat([]api.Datum{datInt(1)}, 4), told(t, h, rest))
	wantTold(t, h, listed(t, h, items, null), list(want...))
	wantTold(t, h, listed(t, h, items, num(5)), dotted(append(want, datInt(5))...))
	wantUntold(t, h, listed(t, h, append(items, num(1)), null))
	wantUntold(t, h, listed(t, h, items, listed(t, h, vals(num(1)), num(1))))
}

func told(t *testing.T, h *Heap, v api.Val) api.Datum {
	t.Helper()
	d, is := h.Tell(v)
	if !is {
		t.Error("it is not told")
	}
	return d
}

// A text is one value, however many parts it has, and so is a box, and a procedure, whatever it has.
func TestTellLooksNotIntoAll(t *testing.T) {
	h := some(t)
	text := do(t, h, "make-string", num(1000), chr(65))
	if d := told(t, h, text); d.Kind != api.DatString || len(d.Text) != 1000 {
		t.Error(raw(d))
	}
	box := do(t, h, "%box", do(t, h, "make-vector", num(1000), text))
	proc := must(t, h, api.ThingProc, many(1000, text)...)
	for _, v := range vals(text, box, proc) {
		if d := told(t, h, do(t, h, "make-vector", num(199), v)); len(d.List) != 199 {
			t.Error(len(d.List))
		}
		wantUntold(t, h, do(t, h, "make-vector", num(200), v))
	}
	do(t, h, "%set-box!", box, box)
	wantTold(t, h, box, datSym("box"))
}

// within is a value within so many others, each made by wrap.
func within(depth int, v api.Val, wrap func(api.Val) api.Val) api.Val {
	for range depth {
		v = wrap(v)
	}
	return v
}

func TestTellOfWhatIsDeep(t *testing.T) {
	h := some(t)
	wraps := map[string]func(api.Val) api.Val{
		"vectors":     func(v api.Val) api.Val { return must(t, h, api.ThingVector, v) },
		"last parts":  func(v api.Val) api.Val { return must(t, h, api.ThingVector, num(1), v) },
		"first parts": func(v api.Val) api.Val { return do(t, h, "cons", v, num(1)) },
		"items":       func(v api.Val) api.Val { return listed(t, h, vals(num(1), v), null) },
	}
	for name, wrap := range wraps {
		for _, v := range vals(num(5), null, void, thing(someText), thing(someBox), thing(someProc), thing(noVector)) {
			if _, is := h.Tell(within(32, v, wrap)); !is {
				t.Errorf("%s within 32 %s", rawVal(v), name)
			}
			wantUntold(t, h, within(33, v, wrap))
		}
		for _, v := range vals(thing(somePair), thing(someVector)) {
			if _, is := h.Tell(within(31, v, wrap)); is != (v == thing(somePair)) { // the vector has a pair
				t.Errorf("%s within 31 %s: %v", rawVal(v), name, is)
			}
			wantUntold(t, h, within(32, v, wrap))
		}
	}
	d := datInt(5)
	for range 32 {
		d = vector(d)
	}
	wantTold(t, h, within(32, num(5), wraps["vectors"]), d)
}

// A second part is within no more than the pair is.
func TestTellOfSecondParts(t *testing.T) {
	h := some(t)
	vectors := func(v api.Val) api.Val { return must(t, h, api.ThingVector, v) }
	items := many(60, num(1))
	if d := told(t, h, within(31, listed(t, h, items, null), vectors)); d.Kind != api.DatVector {
		t.Error(raw(d))
	}
	wantUntold(t, h, within(32, listed(t, h, items, null), vectors))
	// A pair's first part is within one more, though it is behind others.
	if _, is := h.Tell(within(30, listed(t, h, append(many(20, num(1)), thing(somePair)), null), vectors)); !is {
		t.Error("a number within 32")
	}
	wantUntold(t, h, within(31, listed(t, h, append(many(20, num(1)), thing(somePair)), null), vectors))
	// So what is told may be deeper than data may be: a vector behind a point is within the vector about the pair, and not within the pair.
	behind := within(32, num(5), func(v api.Val) api.Val { return do(t, h, "cons", num(1), must(t, h, api.ThingVector, v)) })
	d := datInt(5)
	for range 32 {
		d = dotted(datInt(1), vector(d))
	}
	wantTold(t, h, behind, d)
	if e := data.Check(d); e != api.ErrDataDeep {
		t.Error(e)
	}
	wantUntold(t, h, within(33, num(5), func(v api.Val) api.Val { return do(t, h, "cons", num(1), must(t, h, api.ThingVector, v)) }))
}

func TestTellOfWhatIsWithinItself(t *testing.T) {
	h := some(t)
	p := do(t, h, "cons", num(1), num(2))
	do(t, h, "set-cdr!", p, p)
	wantUntold(t, h, p)
	do(t, h, "set-cdr!", p, null)
	do(t, h, "set-car!", p, p)
	wantUntold(t, h, p)
	do(t, h, "set-cdr!", p, p)
	wantUntold(t, h, p)
	do(t, h, "set-cdr!", p, null)
	do(t, h, "set-car!", p, num(3))
	wantTold(t, h, p, list(datInt(3)))
	v := do(t, h, "make-vector", num(1000), num(1))
	for i := range 1000 {
		do(t, h, "vector-set!", v, num(i), v)
	}
	wantUntold(t, h, v)
	wantUntold(t, h, do(t, h, "cons", num(1), v))
	// One of many ways to come to more than could ever be gone over.
	wide := num(1)
	for range 1000 {
		wide = do(t, h, "cons", wide, wide)
	}
	wantUntold(t, h, wide)
}

func TestToldIsNotShared(t *testing.T) {
	h := some(t)
	in := must(t, h, api.ThingVector, num(1), num(2))
	v := must(t, h, api.ThingVector, in, in)
	l := listed(t, h, vals(in, in), in)
	for _, v := range vals(v, l) {
		a := told(t, h, v)
		want := raw(a)
		b := told(t, h, v)
		a.List[0].List[0] = datInt(9)
		if raw(a.List[1]) != raw(vector(datInt(1), datInt(2))) {
			t.Error("two lists of what is told share memory")
		}
		a.List[1] = datInt(9)
		if raw(b) != want || raw(told(t, h, v)) != want {
			t.Error("what is told shares memory with another, or with the heap")
		}
	}
}
