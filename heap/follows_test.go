package heap

import (
	"math/rand"
	"scrimshaw/api"
	"slices"
	"strconv"
	"testing"
)

// What the chapter promises, held against the other way on what is grown.

type grower struct {
	*rand.Rand
	h *Heap
	o *otherHeap
}

func (g *grower) one(in int) bool { return g.Intn(in) == 0 }

func (g *grower) val() api.Val {
	switch n := g.Intn(100); {
	case n < 1:
		l := append(odd(), thing(g.h.Count()), thing(g.h.Count()+5))
		if v := l[g.Intn(len(l))]; v.Kind != api.ValThing || v.Int < 0 || v.Int >= g.h.Count() {
			return v
		}
	case n < 8:
		return num(numbers()[g.Intn(len(numbers()))])
	case n < 25:
		return num(g.Intn(12) - 1)
	case n < 35:
		return chr(g.Intn(256))
	case n < 40:
		return sym([]string{"a", "b"}[g.Intn(2)])
	case n < 55:
		return []api.Val{no, yes, null, null, void, eof, unset}[g.Intn(7)]
	}
	if g.h.Count() == 0 {
		return null
	}
	// Mostly one of the last.
	if g.one(2) {
		return thing(g.h.Count() - 1 - g.Intn(min(g.h.Count(), 5)))
	}
	return thing(g.Intn(g.h.Count()))
}

// fit is a value of a kind of the table, most of the time.
func (g *grower) fit(letter byte) api.Val {
	for range 40 {
		if v := g.val(); letter == 'a' || g.o.letter(v) == letter {
			return v
		}
	}
	return g.val()
}

func (g *grower) do(t *testing.T) api.Errno {
	t.Helper()
	l := table()
	r := l[g.Intn(len(l))]
	var args []api.Val
	for _, letter := range []byte(r.args) {
		if g.one(15) {
			args = append(args, g.val())
		} else {
			args = append(args, g.fit(letter))
		}
	}
	if g.one(60) {
		args = append(args, g.val())
	}
	if g.one(60) && len(args) > 0 {
		args = args[1:]
	}
	was := rawVals(args)
	want, wrong := g.o.do(r.prim, args)
	v, e := g.h.Do(r.prim, args)
	if v != want || e != wrong || g.h.Count() != len(g.o.kinds) || rawVals(args) != was {
		t.Fatalf("Do(%s, %s): %s, %v, %d things; want %s, %v, %d", r.prim, was, rawVal(v), e, g.h.Count(), rawVal(want), wrong, len(g.o.kinds))
	}
	return e
}

func (g *grower) make(t *testing.T) api.Errno {
	t.Helper()
	kind := g.Intn(7) - 1
	size := []int{g.Intn(4), g.Intn(4), 2, 1, g.Intn(40)}[g.Intn(5)]
	var parts []api.Val
	wrong := api.OK
	for range size {
		v := g.val()
		if kind == api.ThingString && !g.one(30) {
			v = chr(g.Intn(256))
		}
		if g.o.letter(v) == 'z' || kind == api.ThingString && g.o.letter(v) != 'c' {
			wrong = api.ErrArg
		}
		parts = append(parts, v)
	}
	if kind < 0 || kind > 4 || kind == api.ThingPair && size != 2 || kind == api.ThingBox && size != 1 {
		wrong = api.ErrArg
	}
	want := api.Val{}
	if wrong == api.OK {
		want = g.o.add(kind, parts...)
	}
	if v, e := g.h.Make(kind, parts); v != want || e != wrong || g.h.Count() != len(g.o.kinds) {
		t.Fatalf("Make(%d, %s): %s, %v; want %s, %v", kind, rawVals(parts), rawVal(v), e, rawVal(want), wrong)
	}
	return wrong
}

func (g *grower) wantAlike(t *testing.T) {
	t.Helper()
	for i := range g.h.Count() {
		if x, is := g.h.Thing(thing(i)); !is || x.Kind != g.o.kinds[i] || !slices.Equal(x.Parts, g.o.all(i)) {
			t.Fatalf("the thing %d: %v, %v; want %d, %v", i, x, is, g.o.kinds[i], g.o.all(i))
		}
	}
}

func TestGrownHeaps(t *testing.T) {
	for seed := range 8 {
		t.Run(strconv.Itoa(seed), func(t *testing.T) {
			t.Parallel()
			came, told := map[api.Errno]int{}, map[bool]int{}
			r := rand.New(rand.NewSource(int64(800 + seed)))
			for range 60 {
				g := &grower{r, New(), &otherHeap{parts: map[spot]api.Val{}}}
				for range 150 {
					if g.one(6) {
						came[g.make(t)]++
					} else {
						came[g.do(t)]++
					}
					v := g.val()
					want, is := api.Datum{}, g.o.tellable(v)
					if is {
						want = g.o.tell(v)
					}
					if d, got := g.h.Tell(v); got != is || raw(d) != raw(want) {
						t.Fatalf("Tell(%s): %s, %v; want %s, %v", rawVal(v), raw(d), got, raw(want), is)
					}
					told[is]++
				}
				g.wantAlike(t)
			}
			if came[api.OK] < 4000 || came[api.ErrArg] < 200 || came[api.ErrRunType] < 100 || came[api.ErrRunRange] < 100 || came[api.ErrRunOver] < 10 || came[api.ErrRunZero] < 10 || told[false] < 50 {
				t.Error(came, told)
			}
		})
	}
}

// P8.5

func TestWhatIsPutIsGot(t *testing.T) {
	r := rand.New(rand.NewSource(8))
	h := some(t)
	l := []api.Val{do(t, h, "make-vector", num(50), num(0)), do(t, h, "make-vector", num(50), num(0)), must(t, h, api.ThingVector, many(50, num(0))...)}
	var all [3][50]api.Val
	for i := range all {
		for j := range all[i] {
			all[i][j] = num(0)
		}
	}
	values := each()
	for range 20000 {
		i, j, v := r.Intn(3), r.Intn(50), values[r.Intn(len(values))]
		if r.Intn(2) == 0 {
			do(t, h, "vector-set!", l[i], num(j), v)
			all[i][j] = v
		}
		if got := do(t, h, "vector-ref", l[i], num(j)); got != all[i][j] {
			t.Fatalf("%d, %d: %v, want %v", i, j, got, all[i][j])
		}
	}
	for i, v := range l {
		if x, _ := h.Thing(v); !slices.Equal(x.Parts, all[i][:]) {
			t.Error(i)
		}
	}
}

func TestWhatAConstantShows(t *testing.T) {
	data := []api.Datum{{}, {Kind: api.DatBool, Int: 1}, list(), datSym("a"), datSym("void"), datSym("+"), datSym("...")}
	for _, n := range numbers() {
		data = append(data, datInt(n))
	}
	for n := range 256 {
		data = append(data, datChar(n))
	}
	h := New()
	seen := map[api.Val]bool{}
	for _, d := range data {
		v, is := Const(d)
		if got, told := h.Tell(v); !is || !told || raw(got) != raw(d) {
			t.Errorf("Const(%s): %s, %v; it shows %s, %v", raw(d), rawVal(v), is, raw(got), told)
		}
		if p, e := h.Do("%box", vals(v)); e != api.OK || do(t, h, "%unbox", p) != v {
			t.Errorf("Const(%s) is no value of a heap", raw(d))
		}
		seen[v] = true
	}
	if len(seen) != 7+256+len(dedup(numbers())) {
		t.Error(len(seen))
	}
}

func dedup(l []int) []int { return slices.Compact(slices.Sorted(slices.Values(l))) }

func TestExamples(t *testing.T) {
	h := New()
	wantDone(t, h, "cons", vals(num(1), num(2)), thing(0))
	wantDone(t, h, "car", vals(thing(0)), num(1))
	wantDone(t, h, "set-cdr!", vals(thing(0), thing(0)), void)
	wantUntold(t, h, thing(0))
	wantFails(t, h, "quotient", vals(num(7), num(0)), api.ErrRunZero)
	wantFails(t, h, "vector-ref", vals(thing(0), num(0)), api.ErrRunType)
	wantFails(t, h, "car", vals(thing(9)), api.ErrArg)
}
