package core

import (
	"scrimshaw/api"
	"scrimshaw/data"
)

// Make is the expression whose datum is d.
func Make(d api.Datum) (api.Expr, api.Errno) {
	m := maker{}
	e, is := m.made(d)
	// What is made leaves out what should not be in the datum: it is the one only if its own datum is the same.
	if !is || Check(e) != api.OK || !data.Equal(datumOf(e), d) {
		return api.Expr{}, api.ErrCoreForm
	}
	return e, api.OK
}

// maker counts over the whole datum, so that it ends also where data are within themselves.
type maker struct{ begun int }

func (m *maker) made(d api.Datum) (api.Expr, bool) {
	if m.begun == api.MaxCore {
		return api.Expr{}, false
	}
	m.begun++
	e, kids, is := withoutKids(d)
	if !is {
		return api.Expr{}, false
	}
	for _, kid := range kids {
		made, is := m.made(kid)
		if !is {
			return api.Expr{}, false
		}
		e.Kids = append(e.Kids, made)
	}
	return e, true
}

// withoutKids is what a datum says but the kids, and the kids' data; and whether it has as many parts as that takes.
func withoutKids(d api.Datum) (api.Expr, []api.Datum, bool) {
	if d.Kind == api.DatSymbol {
		return api.Expr{Kind: api.ExpRef, Name: d.Text}, nil, true
	}
	if len(d.List) < 2 {
		return api.Expr{}, nil, false
	}
	first, others := d.List[1], d.List[2:]
	switch kind := kindOf(d.List[0].Text); kind {
	case api.ExpQuote:
		return api.Expr{Kind: kind, Const: api.Datum{Kind: first.Kind, Int: first.Int, Text: first.Text}}, nil, true
	case api.ExpSet, api.ExpPrim:
		return api.Expr{Kind: kind, Name: first.Text}, others, true
	case api.ExpLam:
		return api.Expr{Kind: kind, Names: texts(first.List)}, others, true
	case api.ExpLet, api.ExpRec, api.ExpFix:
		names, kids, is := bindingsOf(first.List)
		return api.Expr{Kind: kind, Names: names}, append(kids, others...), is
	case api.ExpIf, api.ExpSeq, api.ExpCall:
		return api.Expr{Kind: kind}, d.List[1:], true
	}
	return api.Expr{}, nil, false
}

func texts(l []api.Datum) []string {
	var out []string
	for _, d := range l {
		out = append(out, d.Text)
	}
	return out
}

// bindingsOf are the names, and the data of what they are bound to.
func bindingsOf(l []api.Datum) ([]string, []api.Datum, bool) {
	var names []string
	var bound []api.Datum
	for _, d := range l {
		if len(d.List) < 2 {
			return nil, nil, false
		}
		names = append(names, d.List[0].Text)
		bound = append(bound, d.List[1])
	}
	return names, bound, true
}

// kindOf is the kind of which a list's datum begins with that word, or none.
func kindOf(s string) int {
	for kind := range api.ExpKinds {
		if word(kind) == s {
			return kind
		}
	}
	return api.ExpKinds
}
