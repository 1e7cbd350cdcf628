package heap

import (
	"scrimshaw/api"
	"scrimshaw/word"
	"slices"
)

// reckoning has the words of the primitives that reckon, each in the place of what it does.
var reckoning = [...]string{api.OpAdd: "+", api.OpSub: "-", api.OpMul: "*", api.OpQuo: "quotient", api.OpRem: "remainder"}

// want is what an argument must be.
type want int

const (
	anything want = iota
	aBool
	anInt
	aChar
	aSymbol
	aNull
	anEof
	aPair
	aVector
	aString
	aBox
	aProc
)

// Do is what a primitive makes of its arguments.
func (h *Heap) Do(prim string, args []api.Val) (api.Val, api.Errno) {
	wants, is := wanted(prim)
	if !is || len(args) != len(wants) || !h.hasAll(args) {
		return api.Val{}, api.ErrArg
	}
	for i, v := range args {
		if !h.is(v, wants[i]) {
			return api.Val{}, api.ErrRunType
		}
	}
	return h.done(prim, args)
}

// wanted is what the arguments of a primitive must be, and whether there is such a one.
func wanted(prim string) ([]want, bool) {
	switch prim {
	case "void", "%unset":
		return nil, true
	case "%box":
		return []want{anything}, true
	case "eq?", "cons":
		return []want{anything, anything}, true
	case "<", "=":
		return []want{anInt, anInt}, true
	case "car", "cdr":
		return []want{aPair}, true
	case "set-car!", "set-cdr!":
		return []want{aPair, anything}, true
	case "make-vector":
		return []want{anInt, anything}, true
	case "make-string":
		return []want{anInt, aChar}, true
	case "vector-length":
		return []want{aVector}, true
	case "string-length":
		return []want{aString}, true
	case "vector-ref":
		return []want{aVector, anInt}, true
	case "string-ref":
		return []want{aString, anInt}, true
	case "vector-set!":
		return []want{aVector, anInt, anything}, true
	case "string-set!":
		return []want{aString, anInt, aChar}, true
	case "char->integer":
		return []want{aChar}, true
	case "integer->char":
		return []want{anInt}, true
	case "%unbox":
		return []want{aBox}, true
	case "%set-box!":
		return []want{aBox, anything}, true
	}
	if _, is := asked(prim); is {
		return []want{anything}, true
	}
	_, is := operation(prim)
	return []want{anInt, anInt}, is
}

// is tells whether one of the heap's values is what is wanted.
func (h *Heap) is(v api.Val, w want) bool {
	switch w {
	case aBool:
		return v.Kind == api.ValBool
	case anInt:
		return v.Kind == api.ValInt
	case aChar:
		return v.Kind == api.ValChar
	case aSymbol:
		return v.Kind == api.ValSymbol
	case aNull:
		return v.Kind == api.ValNull
	case anEof:
		return v.Kind == api.ValEof
	case aPair:
		return h.isThing(v, api.ThingPair)
	case aVector:
		return h.isThing(v, api.ThingVector)
	case aString:
		return h.isThing(v, api.ThingString)
	case aBox:
		return h.isThing(v, api.ThingBox)
	case aProc:
		return h.isThing(v, api.ThingProc)
	}
	return true
}

func (h *Heap) isThing(v api.Val, kind int) bool {
	return v.Kind == api.ValThing && h.things[v.Int].kind == kind
}

// done is what a primitive makes of arguments that are what it wants.
func (h *Heap) done(prim string, args []api.Val) (api.Val, api.Errno) {
	switch prim {
	case "make-vector":
		return h.filled(api.ThingVector, args[0].Int, args[1])
	case "make-string":
		return h.filled(api.ThingString, args[0].Int, args[1])
	case "car", "%unbox":
		return h.thingOf(args[0]).part(0)
	case "cdr":
		return h.thingOf(args[0]).part(1)
	case "vector-ref", "string-ref":
		return h.thingOf(args[0]).part(args[1].Int)
	case "set-car!", "%set-box!":
		return h.thingOf(args[0]).change(0, args[1])
	case "set-cdr!":
		return h.thingOf(args[0]).change(1, args[1])
	case "vector-set!", "string-set!":
		return h.thingOf(args[0]).change(args[1].Int, args[2])
	case "integer->char":
		return charOf(args[0].Int)
	}
	if op, is := operation(prim); is {
		return reckon(op, args[0].Int, args[1].Int)
	}
	return h.sure(prim, args), api.OK
}

// sure is what comes of a primitive that never fails where its arguments are what it wants.
func (h *Heap) sure(prim string, args []api.Val) api.Val {
	switch prim {
	case "cons":
		return h.add(api.ThingPair, len(args), slices.Clone(args))
	case "%box":
		return h.add(api.ThingBox, len(args), slices.Clone(args))
	case "vector-length", "string-length":
		return number(h.thingOf(args[0]).size)
	case "char->integer":
		return number(args[0].Int)
	case "<":
		return truth(args[0].Int < args[1].Int)
	case "=", "eq?":
		return truth(args[0] == args[1])
	case "%unset":
		return api.Val{Kind: api.ValUnset}
	case "void":
		return api.Val{Kind: api.ValVoid}
	}
	w, _ := asked(prim)
	return truth(h.is(args[0], w))
}

// asked is what a primitive asks of any value whether it is that, and whether it asks.
func asked(prim string) (want, bool) {
	switch prim {
	case "null?":
		return aNull, true
	case "symbol?":
		return aSymbol, true
	case "char?":
		return aChar, true
	case "integer?":
		return anInt, true
	case "boolean?":
		return aBool, true
	case "eof-object?":
		return anEof, true
	case "pair?":
		return aPair, true
	case "vector?":
		return aVector, true
	case "string?":
		return aString, true
	case "procedure?":
		return aProc, true
	}
	return anything, false
}

// operation is what a primitive reckons, and whether it does.
func operation(prim string) (int, bool) {
	for op, name := range reckoning {
		if name == prim {
			return op, true
		}
	}
	return 0, false
}

func reckon(op, a, b int) (api.Val, api.Errno) {
	// They are numbers, so that each has a word.
	first, _ := word.Int(a)
	second, _ := word.Int(b)
	w, wrong := word.Reckon(op, first, second)
	switch wrong {
	case api.OK:
		return number(word.Value(w)), api.OK
	case api.ErrWordZero:
		return api.Val{}, api.ErrRunZero
	}
	return api.Val{}, api.ErrRunOver
}

func charOf(n int) (api.Val, api.Errno) {
	if n < 0 || n > maxByte {
		return api.Val{}, api.ErrRunRange
	}
	return char(n), api.OK
}

// filled is a new thing of so many times the same part.
func (h *Heap) filled(kind, size int, part api.Val) (api.Val, api.Errno) {
	if size < 0 || size > api.MaxFill {
		return api.Val{}, api.ErrRunRange
	}
	return h.add(kind, size, []api.Val{part}), api.OK
}

// thingOf is of a value that tells of one.
func (h *Heap) thingOf(v api.Val) *piece { return &h.things[v.Int] }
