package read

import (
	"scrimshaw/api"
	"scrimshaw/data"
)

// reader reads data of tokens; it panics with what is wrong.
type reader struct {
	tokens []api.Token // those that are not read yet
	end    int         // where the source ends
}

func (r *reader) source() []api.Datum {
	var l []api.Datum
	for len(r.tokens) > 0 {
		l = append(l, r.datum(0))
	}
	return l
}

// datum reads one that stands within so many signs of quoting and brackets.
func (r *reader) datum(within int) api.Datum {
	t := r.next()
	switch t.Kind {
	case api.TokClose:
		panic(wrong{t.At, api.ErrReadClose})
	case api.TokDot:
		panic(wrong{t.At, api.ErrReadDot})
	case api.TokQuote, api.TokVector, api.TokOpen:
		if within == api.MaxDeep {
			panic(wrong{t.At, api.ErrReadDeep})
		}
		return r.behind(t.Kind, within+1)
	}
	return api.Datum{Kind: kindOf(t.Kind), Int: t.Int, Text: t.Text}
}

// behind reads what follows a sign of quoting or an opening bracket, and makes the datum of both.
func (r *reader) behind(opening, within int) api.Datum {
	switch opening {
	case api.TokQuote:
		sign := api.Datum{Kind: api.DatSymbol, Text: "quote"}
		return api.Datum{Kind: api.DatList, List: []api.Datum{sign, r.datum(within)}}
	case api.TokVector:
		return r.vector(within)
	}
	return r.list(within)
}

func (r *reader) vector(within int) api.Datum {
	var items []api.Datum
	for !r.passes(api.TokClose) {
		items = append(items, r.datum(within))
	}
	return api.Datum{Kind: api.DatVector, List: items}
}

func (r *reader) list(within int) api.Datum {
	var items []api.Datum
	for !r.passes(api.TokClose) {
		if len(items) > 0 && r.passes(api.TokDot) {
			return data.Make(items, r.tail(within))
		}
		items = append(items, r.datum(within))
	}
	return api.Datum{Kind: api.DatList, List: items}
}

// tail reads the datum behind a dot, and the bracket behind it.
func (r *reader) tail(within int) api.Datum {
	d := r.datum(within)
	if t := r.next(); t.Kind != api.TokClose {
		panic(wrong{t.At, api.ErrReadDot})
	}
	return d
}

// passes goes past the next token if it is of that kind, and tells whether it did.
func (r *reader) passes(kind int) bool {
	if len(r.tokens) == 0 || r.tokens[0].Kind != kind {
		return false
	}
	r.tokens = r.tokens[1:]
	return true
}

func (r *reader) next() api.Token {
	if len(r.tokens) == 0 {
		panic(wrong{r.end, api.ErrReadEnd})
	}
	t := r.tokens[0]
	r.tokens = r.tokens[1:]
	return t
}

// kindOf is the kind of the datum that one token says.
func kindOf(token int) int {
	switch token {
	case api.TokBool:
		return api.DatBool
	case api.TokInt:
		return api.DatInt
	case api.TokChar:
		return api.DatChar
	case api.TokString:
		return api.DatString
	}
	return api.DatSymbol
}
