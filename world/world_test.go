package world

import (
	"fmt"
	"reflect"
	"scrimshaw/api"
	"testing"
)

var (
	void = api.Val{Kind: api.ValVoid}
	null = api.Val{Kind: api.ValNull}
	eof  = api.Val{Kind: api.ValEof}
)

func num(n int) api.Val { return api.Val{Kind: api.ValInt, Int: n} }

func wantDone(t *testing.T, w *World, prim string, want api.Val, args ...api.Val) {
	t.Helper()
	if v, wrong := w.Do(prim, args); v != want || wrong != api.OK {
		t.Errorf("%s of %v: %v, %v; want %v", prim, args, v, wrong, want)
	}
}

func wantWrong(t *testing.T, w *World, prim string, want api.Errno, args ...api.Val) {
	t.Helper()
	if v, wrong := w.Do(prim, args); v != (api.Val{}) || wrong != want {
		t.Errorf("%s of %v: %v, %v; want %v", prim, args, v, wrong, want)
	}
}

func wantOutcome(t *testing.T, w *World, wrong api.Errno, v api.Val, want api.Outcome) {
	t.Helper()
	if got := w.Outcome(wrong, v, want.Steps); !reflect.DeepEqual(got, want) {
		t.Errorf("%+v; want %+v", got, want)
	}
}

func TestReading(t *testing.T) {
	w := New("a\x00\xff")
	for _, n := range []int{97, 0, 255} {
		wantDone(t, w, "read-u8", num(n))
	}
	for range 3 {
		wantDone(t, w, "read-u8", eof)
	}
	wantDone(t, New(""), "read-u8", eof)
}

func TestWriting(t *testing.T) {
	w, all := New("abc"), ""
	for n := range 256 {
		wantDone(t, w, "write-u8", void, num(n))
		all += string([]byte{byte(n)})
		wantWrong(t, w, "write-u8", api.ErrRunRange, num(-1-n))
		wantWrong(t, w, "write-u8", api.ErrRunRange, num(256+n))
	}
	for _, v := range []api.Val{{}, {Kind: api.ValChar, Int: 65}, {Kind: api.ValSymbol, Text: "a"}, null, void, eof, w.Procedure()} {
		wantWrong(t, w, "write-u8", api.ErrRunType, v)
	}
	wantOutcome(t, w, api.ErrRunSteps, num(5), api.Outcome{Err: api.ErrRunSteps, Output: all, Steps: 7})
}

func TestWinders(t *testing.T) {
	w := New("")
	wantDone(t, w, "%winders", null)
	for _, v := range []api.Val{num(5), w.Procedure(), {}, null} {
		wantDone(t, w, "%wind!", void, v)
		wantDone(t, w, "%winders", v)
		wantDone(t, w, "%winders", v)
	}
	wantDone(t, New(""), "%winders", null)
}

func TestAllOthers(t *testing.T) {
	w := New("")
	wantWrong(t, w, "error", api.ErrRunUser)
	wantDone(t, w, "+", num(5), num(2), num(3))
	wantWrong(t, w, "car", api.ErrRunType, num(2))
	first, second := w.Procedure(), w.Procedure()
	if p, is := w.Thing(second); first == second || !is || p.Kind != api.ThingProc || len(p.Parts) > 0 || w.Count() != 2 {
		t.Error(first, second, p, is, w.Count())
	}
	wantDone(t, w, "procedure?", api.Val{Kind: api.ValBool, Int: 1}, first)
}

func TestOutcome(t *testing.T) {
	w := New("")
	wantOutcome(t, w, api.OK, num(5), api.Outcome{Shown: api.Datum{Kind: api.DatInt, Int: 5}, Whole: true, Steps: 3})
	wantOutcome(t, w, api.ErrRunType, num(5), api.Outcome{Err: api.ErrRunType, Steps: 3})
	v, _ := w.Do("make-vector", []api.Val{num(1000), null})
	wantOutcome(t, w, api.OK, v, api.Outcome{Steps: 3})
	l := fmt.Sprint(w.Outcome(api.OK, w.Procedure(), 0))
	if want := fmt.Sprint(api.Outcome{Shown: api.Datum{Kind: api.DatSymbol, Text: "procedure"}, Whole: true}); l != want {
		t.Error(l, want)
	}
}
