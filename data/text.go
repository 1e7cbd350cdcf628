package data

import (
	"scrimshaw/api"
	"strconv"
	"strings"
)

const (
	newline   = 10
	blank     = 32
	lastPlain = 126 // the greatest byte that is told as it is
	hexDigits = "0123456789abcdef"
)

// Text is a datum as it is written in a source.
func Text(d api.Datum) (string, api.Errno) { return tell(d, false) }

// Show is a datum's text, with the bytes of strings and characters as they are.
func Show(d api.Datum) (string, api.Errno) { return tell(d, true) }

func tell(d api.Datum, bare bool) (string, api.Errno) {
	if e := Check(d); e != api.OK {
		return "", e
	}
	t := teller{bare: bare}
	t.datum(d)
	return t.out.String(), api.OK
}

// teller writes a datum that may be.
type teller struct {
	out  strings.Builder
	bare bool
}

func (t *teller) datum(d api.Datum) {
	switch d.Kind {
	case api.DatBool:
		t.truth(d.Int)
	case api.DatInt:
		t.out.WriteString(strconv.Itoa(d.Int))
	case api.DatChar:
		t.char(byte(d.Int))
	case api.DatString:
		t.quoted(d.Text)
	case api.DatSymbol:
		t.out.WriteString(d.Text)
	case api.DatList:
		t.list(d.List)
	case api.DatDotted:
		t.dotted(d.List)
	case api.DatVector:
		t.out.WriteByte('#')
		t.list(d.List)
	}
}

func (t *teller) truth(n int) {
	if n == 0 {
		t.out.WriteString("#f")
	} else {
		t.out.WriteString("#t")
	}
}

func (t *teller) char(b byte) {
	if t.bare {
		t.out.WriteByte(b)
		return
	}
	t.out.WriteString(`#\`)
	switch {
	case b == blank:
		t.out.WriteString("space")
	case b == newline:
		t.out.WriteString("newline")
	case b > blank && b <= lastPlain:
		t.out.WriteByte(b)
	default:
		t.hex(b)
	}
}

func (t *teller) quoted(s string) {
	if t.bare {
		t.out.WriteString(s)
		return
	}
	t.out.WriteByte('"')
	for i := range len(s) {
		t.quotedByte(s[i])
	}
	t.out.WriteByte('"')
}

func (t *teller) quotedByte(b byte) {
	switch {
	case b == '"' || b == '\\':
		t.out.WriteByte('\\')
		t.out.WriteByte(b)
	case b == newline:
		t.out.WriteString(`\n`)
	case b >= blank && b <= lastPlain:
		t.out.WriteByte(b)
	default:
		t.out.WriteByte('\\')
		t.hex(b)
	}
}

func (t *teller) hex(b byte) {
	t.out.WriteByte('x')
	t.out.WriteByte(hexDigits[b>>4])
	t.out.WriteByte(hexDigits[b&15])
}

func (t *teller) list(items []api.Datum) {
	t.out.WriteByte('(')
	t.row(items)
	t.out.WriteByte(')')
}

func (t *teller) dotted(items []api.Datum) {
	last := len(items) - 1
	t.out.WriteByte('(')
	t.row(items[:last])
	t.out.WriteString(" . ")
	t.datum(items[last])
	t.out.WriteByte(')')
}

func (t *teller) row(items []api.Datum) {
	for i, item := range items {
		if i > 0 {
			t.out.WriteByte(blank)
		}
		t.datum(item)
	}
}
