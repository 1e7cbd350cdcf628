package data

import (
	"scrimshaw/api"
	"slices"
	"testing"
)

// P2.3

func TestMake(t *testing.T) {
	one, two, three := number(1), number(2), number(3)
	for _, c := range []struct {
		items      []api.Datum
		tail, want api.Datum
	}{
		{nil, one, one},
		{row(), one, one},
		{nil, list(), list()},
		{nil, list(one), list(one)},
		{nil, dotted(one, two), dotted(one, two)},
		{nil, vector(one), vector(one)},
		{row(one), list(), list(one)},
		{row(one), withNoItems(list()), list(one)},
		{row(one), list(two), list(one, two)},
		{row(one, two), list(three, one), list(one, two, three, one)},
		{row(one), dotted(two, three), dotted(one, two, three)},
		{row(one, two), dotted(three, one, str("a")), dotted(one, two, three, one, str("a"))},
		{row(one), two, dotted(one, two)},
		{row(one, two), sym("z"), dotted(one, two, sym("z"))},
		{row(one), boolean(0), dotted(one, boolean(0))},
		{row(one), char(0), dotted(one, char(0))},
		{row(one), str(""), dotted(one, str(""))},
		{row(one), vector(two, three), dotted(one, vector(two, three))},
		{row(one), vector(), dotted(one, vector())},
		{row(list(one), dotted(one, two)), vector(list(two)), dotted(list(one), dotted(one, two), vector(list(two)))},
		// Such as may not be.
		{nil, dotted(), dotted()},
		{nil, withText(one), withText(one)},
		{nil, withItem(withInt(withText(ofKind(-7)))), withItem(withInt(withText(ofKind(-7))))},
		{row(one), dotted(), dotted(one)},
		{row(one), dotted(two), dotted(one, two)},
		{row(one), dotted(two, list(three)), dotted(one, two, list(three))},
		{row(one), withInt(withText(list(two))), list(one, two)},
		{row(one), withInt(withText(dotted(two, three))), dotted(one, two, three)},
		{row(one), withText(two), dotted(one, withText(two))},
		{row(one), withItem(two), dotted(one, withItem(two))},
		{row(one), ofKind(9), dotted(one, ofKind(9))},
		{row(withItem(ofKind(-1)), dotted()), list(), list(withItem(ofKind(-1)), dotted())},
	} {
		if got := Make(c.items, c.tail); raw(got) != raw(c.want) {
			t.Errorf("Make(%s, %s): %s, want %s", rawRow(c.items), raw(c.tail), raw(got), raw(c.want))
		}
	}
}

func TestItems(t *testing.T) {
	one, two, three := number(1), number(2), number(3)
	for _, c := range []struct {
		d     api.Datum
		items []api.Datum
		tail  api.Datum
	}{
		{list(), nil, list()},
		{withNoItems(list()), nil, list()},
		{list(one), row(one), list()},
		{list(one, list(two), dotted(one, two)), row(one, list(two), dotted(one, two)), list()},
		{dotted(one, two), row(one), two},
		{dotted(one, two, sym("z")), row(one, two), sym("z")},
		{dotted(list(), vector(two)), row(list()), vector(two)},
		{one, nil, one},
		{boolean(1), nil, boolean(1)},
		{char(1), nil, char(1)},
		{str("a"), nil, str("a")},
		{sym("a"), nil, sym("a")},
		{vector(), nil, vector()},
		{vector(one, two), nil, vector(one, two)},
		// Such as may not be.
		{dotted(), nil, dotted()},
		{withInt(withText(dotted())), nil, withInt(withText(dotted()))},
		{dotted(one), nil, one},
		{dotted(list(two)), nil, list(two)},
		{dotted(one, list(two, three)), row(one), list(two, three)},
		{dotted(one, dotted(two, three)), row(one), dotted(two, three)},
		{withInt(withText(list(one))), row(one), list()},
		{withInt(withText(dotted(one, two))), row(one), two},
		{withItem(one), nil, withItem(one)},
		{withItem(withInt(withText(ofKind(9)))), nil, withItem(withInt(withText(ofKind(9))))},
		{asKind(list(one, two), -1), nil, asKind(list(one, two), -1)},
	} {
		items, tail := Items(c.d)
		if rawRow(items) != rawRow(c.items) || raw(tail) != raw(c.tail) {
			t.Errorf("Items(%s): %s, %s, want %s, %s", raw(c.d), rawRow(items), raw(tail), rawRow(c.items), raw(c.tail))
		}
	}
}

// P2.4, of Make and Items

func TestMakeOfItemsIsTheDatum(t *testing.T) {
	for _, d := range someData() {
		items, tail := Items(d)
		if got := Make(items, tail); raw(got) != raw(d) {
			t.Errorf("%s became %s", raw(d), raw(got))
		}
	}
}

// R4, R5 and R3

func TestMakeSharesNothing(t *testing.T) {
	all := append(someData()[:300], oddData()...)
	for i, a := range all {
		tail := all[(i*7+3)%len(all)]
		for _, fill := range []int{0, 1, 3} {
			// The room behind the items is the caller's as well.
			items := append(make([]api.Datum, 0, 8), slices.Repeat(row(fresh(a)), fill)...)
			behind := items[:8]
			behind[7], behind[fill] = sym("seven"), sym("behind")
			last := fresh(tail)
			itemsBefore, lastBefore := rawRow(behind), raw(last)
			got, again := Make(items, last), Make(items, last)
			if rawRow(behind) != itemsBefore || raw(last) != lastBefore {
				t.Fatalf("Make(%s, %s) changed them", rawRow(items), lastBefore)
			}
			want := raw(got)
			spoil(again.List)
			spoil(items)
			spoil(last.List)
			if raw(got) != want {
				t.Errorf("what Make gave shares memory: %s became %s", want, raw(got))
			}
		}
	}
}

func TestItemsShareNothing(t *testing.T) {
	for _, like := range append(someData()[:600], oddData()...) {
		d := fresh(like)
		items, tail := Items(d)
		again, tailAgain := Items(d)
		if raw(d) != raw(like) {
			t.Fatalf("Items changed %s", raw(like))
		}
		wantItems, wantTail := rawRow(items), raw(tail)
		spoil(again)
		spoil(tailAgain.List)
		spoil(d.List)
		if rawRow(items) != wantItems || raw(tail) != wantTail {
			t.Errorf("what Items gave of %s shares memory", raw(like))
		}
		spoil(items)
		if raw(tail) != wantTail {
			t.Errorf("the items and the tail of %s share memory", raw(like))
		}
	}
}

func TestListsOfOneAnswerShareNothing(t *testing.T) {
	inner := row(number(1), number(2))
	shared := api.Datum{Kind: api.DatList, List: inner}
	got := Make(row(shared, list(shared)), list(shared))
	got.List[0].List[0] = str("spoilt")
	if raw(got) != raw(list(list(str("spoilt"), number(2)), list(shared), shared)) {
		t.Error(raw(got))
	}
	items, tail := Items(dotted(shared, shared, vector(shared)))
	items[0].List[0] = str("spoilt")
	if raw(items[1]) != raw(shared) || raw(tail) != raw(vector(shared)) {
		t.Error(rawRow(items), raw(tail))
	}
}

// fresh has memory of its own, by none of this package's functions.
func fresh(d api.Datum) api.Datum {
	l := make([]api.Datum, 0, len(d.List)+2)
	for _, item := range d.List {
		l = append(l, fresh(item))
	}
	d.List = l
	return d
}
