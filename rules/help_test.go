package rules

import (
	"scrimshaw/api"
	"scrimshaw/data"
	"scrimshaw/read"
	"slices"
	"strconv"
	"strings"
	"testing"
)

func number(n int) api.Datum          { return api.Datum{Kind: api.DatInt, Int: n} }
func sym(s string) api.Datum          { return api.Datum{Kind: api.DatSymbol, Text: s} }
func list(l ...api.Datum) api.Datum   { return api.Datum{Kind: api.DatList, List: l} }
func dotted(l ...api.Datum) api.Datum { return api.Datum{Kind: api.DatDotted, List: l} }
func vector(l ...api.Datum) api.Datum { return api.Datum{Kind: api.DatVector, List: l} }
func row(l ...api.Datum) []api.Datum  { return l }

// of is the one datum that a text says.
func of(s string) api.Datum {
	l, at, e := read.Read(s)
	if len(l) != 1 || e != api.OK {
		panic("no datum: " + s + " at " + strconv.Itoa(at))
	}
	return l[0]
}

// each are data of texts.
func each(texts ...string) []api.Datum {
	var l []api.Datum
	for _, s := range texts {
		l = append(l, of(s))
	}
	return l
}

func rule(pattern, template string) api.Rule {
	return api.Rule{Pattern: of(pattern), Template: of(template)}
}

// made are rules of patterns and templates by turns, with the literals else and =>.
func made(texts ...string) api.Rules {
	r := api.Rules{Ellipsis: "...", Literals: []string{"else", "=>"}}
	for i := 0; i+1 < len(texts); i += 2 {
		r.Rules = append(r.Rules, rule(texts[i], texts[i+1]))
	}
	return r
}

// with are rules of one pattern and one template that need not have a text.
func with(pattern, template api.Datum) api.Rules {
	return api.Rules{Ellipsis: "...", Rules: []api.Rule{{Pattern: pattern, Template: template}}}
}

// nested has a datum within so many others.
func nested(depth int, d api.Datum) api.Datum {
	for range depth {
		d = list(d)
	}
	return d
}

// looped is within itself.
func looped(kind int) api.Datum {
	l := row(sym("a"), sym("b"), sym("c"))
	d := api.Datum{Kind: kind, List: l}
	l[1] = d
	return d
}

// wide shares its memory: there is little of it, but more data are come to than could ever be gone over.
func wide() api.Datum {
	d := list(number(1))
	for range 31 {
		d = list(d, d, d, d)
	}
	return d
}

// odd are data that may not be, each for a reason of its own.
func odd() []api.Datum {
	one := number(1)
	return row(api.Datum{Kind: -1}, api.Datum{Kind: api.DatKinds}, api.Datum{Kind: api.DatBool, Int: 2}, number(api.MaxInt+1), api.Datum{Kind: api.DatChar, Int: 256}, api.Datum{Kind: api.DatString, Text: strings.Repeat("a", 4097)},
		sym(""), sym("5"), sym("."), sym("a b"), sym(strings.Repeat("a", 65)), api.Datum{Kind: api.DatSymbol, Text: "a", Int: 1}, api.Datum{Kind: api.DatSymbol, Text: "a", List: row(one)}, api.Datum{Kind: api.DatInt, Text: "a"},
		api.Datum{Kind: api.DatList, Int: 1}, api.Datum{Kind: api.DatVector, Text: "a"}, dotted(), dotted(one), dotted(sym("a")), dotted(one, list()), dotted(sym("a"), list(sym("b"))), dotted(one, dotted(one, one)),
		nested(33, one), nested(32, list()), list(slices.Repeat(row(one), 4096)...), looped(api.DatList), looped(api.DatDotted), looped(api.DatVector), wide())
}

// raw tells all of a datum, field by field.
func raw(d api.Datum) string {
	var out strings.Builder
	out.WriteString("{" + strconv.Itoa(d.Kind) + " " + strconv.Itoa(d.Int) + " " + strconv.Quote(d.Text))
	for _, item := range d.List {
		out.WriteString(" " + raw(item))
	}
	out.WriteString("}")
	return out.String()
}

// told is a datum for a test's eye: its text if it has one.
func told(d api.Datum) string {
	if s, e := data.Text(d); e == api.OK {
		return s
	}
	if e := data.Check(d); e != api.ErrDataForm {
		return "a datum that may not be, " + strconv.Itoa(int(e))
	}
	return raw(d)
}

func toldRules(r api.Rules) string {
	out := strconv.Quote(r.Ellipsis) + " " + strings.Join(r.Literals, ",")
	for _, x := range r.Rules {
		out += "; " + told(x.Pattern) + " -> " + told(x.Template)
	}
	return out
}

func rawRules(r api.Rules) string {
	out := strconv.Quote(r.Ellipsis) + strings.Join(r.Literals, ",")
	for _, x := range r.Rules {
		out += raw(x.Pattern) + raw(x.Template)
	}
	return out
}

// spoil changes all the memory that a row of data has, what lies behind its end too.
func spoil(l []api.Datum) {
	for _, d := range l {
		spoil(d.List)
	}
	l = l[:cap(l)]
	for i := range l {
		l[i] = sym("spoilt")
	}
}

func wantCheck(t *testing.T, r api.Rules, want api.Errno) {
	t.Helper()
	if e := Check(r); e != want {
		t.Errorf("Check(%.600s): %v, want %v", toldRules(r), e, want)
	}
}

func wantMatch(t *testing.T, r api.Rules, pattern, d api.Datum, want bool) {
	t.Helper()
	if is := Match(r, pattern, d); is != want {
		t.Errorf("Match(%.300s, %.300s) by %.300s: %v", told(pattern), told(d), toldRules(r), is)
	}
}

func wantMade(t *testing.T, r api.Rules, d api.Datum, mark string, want api.Datum) {
	t.Helper()
	if got, e := Expand(r, d, mark); raw(got) != raw(want) || e != api.OK {
		t.Errorf("Expand(%.600s) of %.600s, %q: %.600s, %v; want %.600s", toldRules(r), told(d), mark, told(got), e, told(want))
	}
}

func wantNone(t *testing.T, r api.Rules, d api.Datum, mark string, want api.Errno) {
	t.Helper()
	if got, e := Expand(r, d, mark); raw(got) != raw(api.Datum{}) || got.List != nil || e != want {
		t.Errorf("Expand(%.600s) of %.600s, %q: %.600s, %v; want %v", toldRules(r), told(d), mark, told(got), e, want)
	}
}

func TestDataOfTheTests(t *testing.T) {
	for _, d := range odd() {
		if e := data.Check(d); e == api.OK {
			t.Errorf("%s may be", told(d))
		}
	}
}
