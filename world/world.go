// Package world is what a run has besides its control: a heap, an input, an output, winders. What evaluates expressions and what runs code both stand on it, so that primitives mean the same to them.
package world

import (
	"scrimshaw/api"
	"scrimshaw/heap"
)

const maxByte = 255

// World is a heap whose primitives may read, write and wind as well.
type World struct {
	*heap.Heap
	input   string // what is left of it
	output  []byte
	winders api.Val
}

// New is a world without things, in which nothing was read, written or wound yet.
func New(input string) *World {
	return &World{Heap: heap.New(), input: input, winders: api.Val{Kind: api.ValNull}}
}

// Procedure is the value of a new one.
func (w *World) Procedure() api.Val {
	v, _ := w.Make(api.ThingProc, nil)
	return v
}

// Do is what a primitive that is not `%callcc` makes of as many arguments as it has.
func (w *World) Do(prim string, args []api.Val) (api.Val, api.Errno) {
	switch prim {
	case "read-u8":
		return w.read(), api.OK
	case "write-u8":
		return w.write(args[0])
	case "error":
		return api.Val{}, api.ErrRunUser
	case "%winders":
		return w.winders, api.OK
	case "%wind!":
		w.winders = args[0]
		return api.Val{Kind: api.ValVoid}, api.OK
	}
	return w.Heap.Do(prim, args)
}

// Outcome is how a run ended: with an error, or with a value; and after how many steps.
func (w *World) Outcome(wrong api.Errno, value api.Val, steps int) api.Outcome {
	out := api.Outcome{Err: wrong, Output: string(w.output), Steps: steps}
	if wrong == api.OK {
		out.Shown, out.Whole = w.Tell(value)
	}
	return out
}

// read is the next byte of the input.
func (w *World) read() api.Val {
	if w.input == "" {
		return api.Val{Kind: api.ValEof}
	}
	b := w.input[0]
	w.input = w.input[1:]
	return api.Val{Kind: api.ValInt, Int: int(b)}
}

func (w *World) write(v api.Val) (api.Val, api.Errno) {
	if v.Kind != api.ValInt {
		return api.Val{}, api.ErrRunType
	}
	if v.Int < 0 || v.Int > maxByte {
		return api.Val{}, api.ErrRunRange
	}
	w.output = append(w.output, byte(v.Int))
	return api.Val{Kind: api.ValVoid}, api.OK
}
