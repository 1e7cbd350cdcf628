package core

import (
	"scrimshaw/api"
	"scrimshaw/data"
)

// Data is the datum of an expression.
func Data(e api.Expr) (api.Datum, api.Errno) {
	if wrong := Check(e); wrong != api.OK {
		return api.Datum{}, wrong
	}
	return datumOf(e), api.OK
}

func datumOf(e api.Expr) api.Datum {
	switch e.Kind {
	case api.ExpQuote:
		return form(e.Kind, data.Make(nil, e.Const))
	case api.ExpRef:
		return symbol(e.Name)
	case api.ExpSet, api.ExpPrim:
		return form(e.Kind, behind(symbol(e.Name), dataOf(e.Kids)...)...)
	case api.ExpLam:
		return form(e.Kind, list(symbols(e.Names)...), datumOf(e.Kids[0]))
	case api.ExpLet, api.ExpRec, api.ExpFix:
		return form(e.Kind, list(bindings(e)...), datumOf(e.Kids[len(e.Names)]))
	}
	return form(e.Kind, dataOf(e.Kids)...)
}

func dataOf(kids []api.Expr) []api.Datum {
	var out []api.Datum
	for _, kid := range kids {
		out = append(out, datumOf(kid))
	}
	return out
}

func bindings(e api.Expr) []api.Datum {
	var out []api.Datum
	for i, name := range e.Names {
		out = append(out, list(symbol(name), datumOf(e.Kids[i])))
	}
	return out
}

func symbols(names []string) []api.Datum {
	var out []api.Datum
	for _, name := range names {
		out = append(out, symbol(name))
	}
	return out
}

func symbol(name string) api.Datum { return api.Datum{Kind: api.DatSymbol, Text: name} }

func list(items ...api.Datum) api.Datum { return api.Datum{Kind: api.DatList, List: items} }

// form is the list of a kind's word and the parts.
func form(kind int, parts ...api.Datum) api.Datum {
	return list(behind(symbol(word(kind)), parts...)...)
}

func behind(first api.Datum, others ...api.Datum) []api.Datum {
	return append([]api.Datum{first}, others...)
}

// word is what a kind's datum begins with, if that is a list.
func word(kind int) string {
	switch kind {
	case api.ExpQuote:
		return "quote"
	case api.ExpSet:
		return "set!"
	case api.ExpIf:
		return "if"
	case api.ExpSeq:
		return "begin"
	case api.ExpLam:
		return "lambda"
	case api.ExpCall:
		return "call"
	case api.ExpPrim:
		return "prim"
	case api.ExpLet:
		return "let"
	case api.ExpRec:
		return "letrec"
	case api.ExpFix:
		return "fix"
	}
	return ""
}
