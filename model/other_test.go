package model

import (
	"maps"
	"scrimshaw/api"
	"scrimshaw/heap"
)

// The other way of the tests: what is still to be done is a function of Go, a name means its variable by a map that is copied for each scope, and an error is a panic.

type (
	todo  func() todo
	then  func(v api.Val) todo
	other struct {
		h              *heap.Heap
		calls          map[api.Val]func(args []api.Val, k then) todo
		input, output  string
		winders, value api.Val
		taken, steps   int
	}
)

func otherRun(e api.Expr, input string, steps int) (out api.Outcome) {
	o := &other{h: heap.New(), calls: map[api.Val]func([]api.Val, then) todo{}, input: input, winders: api.Val{Kind: api.ValNull}, steps: steps}
	defer func() {
		if p := recover(); p != nil {
			out = api.Outcome{Err: p.(api.Errno), Output: o.output, Steps: o.taken}
		}
	}()
	next := o.eval(e, nil, func(v api.Val) todo {
		o.value = v
		return nil
	})
	for next != nil {
		next = next()
	}
	out = api.Outcome{Output: o.output, Steps: o.taken}
	out.Shown, out.Whole = o.h.Tell(o.value)
	return out
}

func (o *other) eval(e api.Expr, n map[string]*api.Val, k then) todo {
	return func() todo {
		if o.taken >= o.steps {
			panic(api.ErrRunSteps)
		}
		o.taken++
		switch e.Kind {
		case api.ExpQuote:
			v, _ := heap.Const(e.Const)
			return k(v)
		case api.ExpRef:
			return k(*n[e.Name])
		case api.ExpSet:
			return o.eval(e.Kids[0], n, func(v api.Val) todo {
				*n[e.Name] = v
				return k(api.Val{Kind: api.ValVoid})
			})
		case api.ExpIf:
			return o.eval(e.Kids[0], n, func(v api.Val) todo {
				if v.Kind == api.ValBool && v.Int == 0 {
					return o.eval(e.Kids[2], n, k)
				}
				return o.eval(e.Kids[1], n, k)
			})
		case api.ExpSeq:
			return o.evalAll(e.Kids, n, nil, func(l []api.Val) todo { return k(l[len(l)-1]) })
		case api.ExpLam:
			return k(o.made(func(args []api.Val, k then) todo {
				if len(args) != len(e.Names) {
					panic(api.ErrRunCount)
				}
				return o.eval(e.Kids[0], bound(n, e.Names, args), k)
			}))
		case api.ExpCall:
			return o.evalAll(e.Kids, n, nil, func(l []api.Val) todo { return o.call(l[0], l[1:], k) })
		case api.ExpPrim:
			return o.evalAll(e.Kids, n, nil, func(l []api.Val) todo { return o.prim(e.Name, l, k) })
		case api.ExpLet:
			return o.evalAll(e.Kids[:len(e.Names)], n, nil, func(l []api.Val) todo {
				return o.eval(e.Kids[len(e.Names)], bound(n, e.Names, l), k)
			})
		}
		return o.rec(e, n, k)
	}
}

// evalAll hands on the values of all; each time it is come to anew they are another row.
func (o *other) evalAll(l []api.Expr, n map[string]*api.Val, values []api.Val, k func([]api.Val) todo) todo {
	if len(l) == 0 {
		return k(values)
	}
	return o.eval(l[0], n, func(v api.Val) todo {
		return o.evalAll(l[1:], n, append(append([]api.Val{}, values...), v), k)
	})
}

// rec sets the names one by one, in the order that the chapter tells.
func (o *other) rec(e api.Expr, n map[string]*api.Val, k then) todo {
	values := make([]api.Val, len(e.Names))
	for i := range values {
		values[i] = api.Val{Kind: api.ValUnset}
	}
	inner := bound(n, e.Names, values)
	next := o.eval(e.Kids[len(e.Names)], inner, k)
	for _, functions := range []bool{false, true} {
		for i := len(e.Names) - 1; i >= 0; i-- {
			if (e.Kids[i].Kind == api.ExpLam) == functions {
				behind := next
				next = o.eval(e.Kids[i], inner, func(v api.Val) todo {
					*inner[e.Names[i]] = v
					return behind
				})
			}
		}
	}
	return next
}

func bound(n map[string]*api.Val, l []string, values []api.Val) map[string]*api.Val {
	out := maps.Clone(n)
	if out == nil {
		out = map[string]*api.Val{}
	}
	for i, name := range l {
		v := values[i]
		out[name] = &v
	}
	return out
}

func (o *other) made(f func([]api.Val, then) todo) api.Val {
	v, _ := o.h.Make(api.ThingProc, nil)
	o.calls[v] = f
	return v
}

func (o *other) call(f api.Val, args []api.Val, k then) todo {
	if o.calls[f] == nil {
		panic(api.ErrRunProc)
	}
	return o.calls[f](args, k)
}

func (o *other) prim(name string, args []api.Val, k then) todo {
	v := api.Val{Kind: api.ValVoid}
	switch name {
	case "read-u8":
		v = api.Val{Kind: api.ValEof}
		if o.input != "" {
			v = api.Val{Kind: api.ValInt, Int: int(o.input[0])}
			o.input = o.input[1:]
		}
	case "write-u8":
		if args[0].Kind != api.ValInt {
			panic(api.ErrRunType)
		}
		if args[0].Int != args[0].Int&255 {
			panic(api.ErrRunRange)
		}
		o.output += string([]byte{byte(args[0].Int)})
	case "error":
		panic(api.ErrRunUser)
	case "%winders":
		v = o.winders
	case "%wind!":
		o.winders = args[0]
	case "%callcc":
		back := o.made(func(l []api.Val, _ then) todo {
			if len(l) != 1 {
				panic(api.ErrRunCount)
			}
			return k(l[0])
		})
		return o.call(args[0], []api.Val{back}, k)
	default:
		done, wrong := o.h.Do(name, args)
		if wrong != api.OK {
			panic(wrong)
		}
		v = done
	}
	return k(v)
}
