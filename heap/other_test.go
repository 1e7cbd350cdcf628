package heap

import (
	"scrimshaw/api"
	"strings"
)

// The other way of the tests: a part stands in a map, under its thing's number and its place; what a primitive does is told by the table's letters and by a function for each word.

type spot struct{ thing, at int }

type otherHeap struct {
	kinds, sizes []int
	parts        map[spot]api.Val
}

func (o *otherHeap) add(kind int, parts ...api.Val) api.Val {
	n := len(o.kinds)
	o.kinds, o.sizes = append(o.kinds, kind), append(o.sizes, len(parts))
	for i, part := range parts {
		o.parts[spot{n, i}] = part
	}
	return thing(n)
}

func (o *otherHeap) all(n int) []api.Val {
	var l []api.Val
	for i := range o.sizes[n] {
		l = append(l, o.parts[spot{n, i}])
	}
	return l
}

// letter is the kind of a value, as the table has it; `z` of what is no value, `q` of another kind.
func (o *otherHeap) letter(v api.Val) byte {
	bounds := map[int][2]int{api.ValBool: {0, 1}, api.ValInt: {-1 << 60, 1<<60 - 1}, api.ValChar: {0, 255}, api.ValThing: {0, len(o.kinds) - 1}}[v.Kind]
	if v.Int < bounds[0] || v.Int > bounds[1] || v.Kind < 0 || v.Kind > 8 {
		return 'z'
	}
	// The texts of these tests are `a`, `b`, or none that a symbol may have.
	if (v.Kind == api.ValSymbol) != (v.Text == "a" || v.Text == "b") || v.Kind != api.ValSymbol && v.Text != "" {
		return 'z'
	}
	if v.Kind == api.ValThing {
		return "pvsbr"[o.kinds[v.Int]]
	}
	return "qncqqqqq"[v.Kind]
}

func otherTruth(is bool) api.Val { return map[bool]api.Val{false: no, true: yes}[is] }

func (o *otherHeap) do(prim string, args []api.Val) (api.Val, api.Errno) {
	wants, is := "", false
	for _, r := range table() {
		if r.prim == prim {
			wants, is = r.args, true
		}
	}
	if !is || len(wants) != len(args) {
		return api.Val{}, api.ErrArg
	}
	for _, v := range args {
		if o.letter(v) == 'z' {
			return api.Val{}, api.ErrArg
		}
	}
	for i, v := range args {
		if wants[i] != 'a' && wants[i] != o.letter(v) {
			return api.Val{}, api.ErrRunType
		}
	}
	first, at := api.Val{}, 0
	if len(args) > 0 {
		first = args[0]
	}
	if len(args) > 1 {
		at = args[1].Int
	}
	fixed := map[string]int{"car": 0, "cdr": 1, "set-car!": 0, "set-cdr!": 1, "%unbox": 0, "%set-box!": 0}
	if place, is := fixed[prim]; is {
		at = place
	}
	switch {
	case strings.HasPrefix(prim, "make-"):
		if first.Int < 0 || first.Int > 1000 {
			return api.Val{}, api.ErrRunRange
		}
		return o.add(map[string]int{"make-vector": 1, "make-string": 2}[prim], many(first.Int, args[1])...), api.OK
	case strings.HasPrefix(prim, "set-c") || prim == "%set-box!" || strings.HasSuffix(prim, "-set!"):
		return o.put(first, at, args[len(args)-1])
	case prim == "car" || prim == "cdr" || prim == "%unbox" || strings.HasSuffix(prim, "-ref"):
		if at < 0 || at >= o.sizes[first.Int] {
			return api.Val{}, api.ErrRunRange
		}
		return o.parts[spot{first.Int, at}], api.OK
	case strings.HasSuffix(prim, "?") && prim != "eq?":
		is := map[string]bool{"null?": first.Kind == 4, "symbol?": first.Kind == 3, "boolean?": first.Kind == 0, "eof-object?": first.Kind == 6,
			"char?": o.letter(first) == 'c', "integer?": o.letter(first) == 'n', "pair?": o.letter(first) == 'p', "vector?": o.letter(first) == 'v', "string?": o.letter(first) == 's', "procedure?": o.letter(first) == 'r'}
		return otherTruth(is[prim]), api.OK
	}
	return o.rest(prim, args)
}

func (o *otherHeap) put(v api.Val, at int, part api.Val) (api.Val, api.Errno) {
	if at < 0 || at >= o.sizes[v.Int] {
		return api.Val{}, api.ErrRunRange
	}
	o.parts[spot{v.Int, at}] = part
	return void, api.OK
}

func (o *otherHeap) rest(prim string, args []api.Val) (api.Val, api.Errno) {
	switch prim {
	case "cons":
		return o.add(0, args...), api.OK
	case "%box":
		return o.add(3, args...), api.OK
	case "vector-length", "string-length":
		return num(o.sizes[args[0].Int]), api.OK
	case "char->integer":
		return num(args[0].Int), api.OK
	case "integer->char":
		if n := args[0].Int; n < 0 || n > 255 {
			return api.Val{}, api.ErrRunRange
		}
		return chr(args[0].Int), api.OK
	case "void":
		return void, api.OK
	case "%unset":
		return unset, api.OK
	case "eq?", "=":
		return otherTruth(rawVal(args[0]) == rawVal(args[1])), api.OK
	case "<":
		return otherTruth(args[0].Int < args[1].Int), api.OK
	}
	return reckoned(prim, args[0].Int, args[1].Int)
}

// tellable goes over all that is to be looked at, in no order that matters.
func (o *otherHeap) tellable(v api.Val) bool {
	type seen struct {
		v      api.Val
		within int
	}
	left, looked := []seen{{v, 0}}, 0
	for len(left) > 0 {
		next := left[len(left)-1]
		left = left[:len(left)-1]
		looked++
		letter := o.letter(next.v)
		if looked > 200 || next.within > 32 || letter == 'z' {
			return false
		}
		if letter == 'p' {
			left = append(left, seen{o.parts[spot{next.v.Int, 0}], next.within + 1}, seen{o.parts[spot{next.v.Int, 1}], next.within})
		}
		if letter == 'v' {
			for _, part := range o.all(next.v.Int) {
				left = append(left, seen{part, next.within + 1})
			}
		}
	}
	return true
}

// tell is what a value shows that can be told.
func (o *otherHeap) tell(v api.Val) api.Datum {
	switch o.letter(v) {
	case 's':
		text := ""
		for _, part := range o.all(v.Int) {
			text += string([]byte{byte(part.Int)})
		}
		return datText(text)
	case 'b':
		return datSym("box")
	case 'r':
		return datSym("procedure")
	case 'v':
		return vector(o.tellAll(o.all(v.Int))...)
	case 'p':
		var l []api.Val
		for o.letter(v) == 'p' {
			l = append(l, o.parts[spot{v.Int, 0}])
			v = o.parts[spot{v.Int, 1}]
		}
		if v == null {
			return list(o.tellAll(l)...)
		}
		return dotted(o.tellAll(append(l, v))...)
	}
	return map[int]api.Datum{api.ValBool: {Kind: api.DatBool, Int: v.Int}, api.ValInt: datInt(v.Int), api.ValChar: datChar(v.Int), api.ValSymbol: datSym(v.Text), api.ValNull: list(), api.ValVoid: datSym("void"), api.ValEof: datSym("eof"), api.ValUnset: datSym("unset")}[v.Kind]
}

func (o *otherHeap) tellAll(l []api.Val) []api.Datum {
	var out []api.Datum
	for _, v := range l {
		out = append(out, o.tell(v))
	}
	return out
}
