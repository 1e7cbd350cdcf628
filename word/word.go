// Package word is layer 1, what a machine's word says: see shared/doc/01-word.md.
package word

import "scrimshaw/api"

const (
	tagBits   = 3
	tagMask   = 1<<tagBits - 1
	headKinds = 8
	leastInt  = -api.MaxInt - 1
)

// Int is the word of a number.
func Int(n int) (int, api.Errno) {
	if n < leastInt || n > api.MaxInt {
		return 0, api.ErrWordOver
	}
	return join(api.TagInt, n), api.OK
}

// Place is the word of a place in memory.
func Place(at int) (int, api.Errno) { return counted(api.TagPlace, at) }

// Const is the word of a constant's number.
func Const(n int) (int, api.Errno) { return counted(api.TagConst, n) }

// Symbol is the word of a symbol's number.
func Symbol(n int) (int, api.Errno) { return counted(api.TagSymbol, n) }

// Head is the word ahead of a thing's parts.
func Head(kind, size int) (int, api.Errno) {
	if kind < 0 || kind >= headKinds || size < 0 || size > api.MaxSize {
		return 0, api.ErrArg
	}
	return join(api.TagHead, size*headKinds+kind), api.OK
}

// Tag tells of which kind a word is.
func Tag(w int) int { return w & tagMask }

// Value shifts, since a division would round the words below 0 the wrong way.
func Value(w int) int { return w >> tagBits }

// Reckon works on the words of two numbers, and makes the word of a third.
func Reckon(op, a, b int) (int, api.Errno) {
	if op < api.OpAdd || op > api.OpRem {
		return 0, api.ErrArg
	}
	if !areInts(a, b) {
		return 0, api.ErrWordType
	}
	x, y := Value(a), Value(b)
	if y == 0 && (op == api.OpQuo || op == api.OpRem) {
		return 0, api.ErrWordZero
	}
	// A sum, a difference and a quotient of numbers fit an int, so that Int can judge them.
	switch op {
	case api.OpAdd:
		return Int(x + y)
	case api.OpSub:
		return Int(x - y)
	case api.OpMul:
		return product(x, y)
	case api.OpQuo:
		return Int(x / y)
	}
	return Int(x % y)
}

// Less tells whether the first of two numbers' words is of the lesser number.
func Less(a, b int) (bool, api.Errno) {
	if !areInts(a, b) {
		return false, api.ErrWordType
	}
	return Value(a) < Value(b), api.OK
}

func join(tag, value int) int { return value<<tagBits + tag }

func areInts(a, b int) bool { return Tag(a) == api.TagInt && Tag(b) == api.TagInt }

func counted(tag, n int) (int, api.Errno) {
	if n < 0 || n > api.MaxInt {
		return 0, api.ErrArg
	}
	return join(tag, n), api.OK
}

// product divides back, since a product of numbers may wrap round to a number.
func product(x, y int) (int, api.Errno) {
	p := x * y
	if y != 0 && p/y != x {
		return 0, api.ErrWordOver
	}
	return Int(p)
}
