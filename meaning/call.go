package meaning

import (
	"slices"

	"commonform/api"
	"commonform/heap"
	"commonform/lib"
)

// compiled is how the other road calls a function of its own.
type compiled = func(function heap.Word, args []heap.Word, steps int) (lib.End, int)

// call calls a function.
func (r *run) call(function heap.Word, args []heap.Word) state {
	switch r.heap.Kind(function) {
	case heap.KindClosure:
		r.checkWords(args)
		return r.enter(function, args)
	case heap.KindCode:
		r.checkWords(args)
		return r.callCompiled(function, args)
	}
	a := r.builtin(function, args)
	r.checkCrossed()
	switch a.Kind {
	case lib.AnswerValues:
		return giving(a.Values...)
	case lib.AnswerFault:
		return r.fault(a.Fault.Type, a.Fault.Data...)
	case lib.AnswerNext:
		return calling(a.Function, a.Values)
	case lib.AnswerLimit:
		limit(a.Code)
	}
	bad(api.ErrArg) // what a function that was registered has answered
	return state{}
}

// checkWords ends a run for arguments that the world would refuse, too.
func (r *run) checkWords(l []heap.Word) {
	for _, x := range l {
		_, isFixnum := x.Fixnum()
		_, isCharacter := x.Character()
		if !isFixnum && !isCharacter && x != heap.Unbound && r.heap.Place(x) < 0 {
			limit(heap.ErrWord)
		}
	}
}

// checkCrossed ends a run if an exit led out of a part of it.
func (r *run) checkCrossed() {
	if r.whole.isCrossed {
		limit(ErrCross)
	}
}

// callCompiled calls a compiled function on its own road.
func (r *run) callCompiled(function heap.Word, args []heap.Word) state {
	apply, ok := r.world.Extra("apply").(compiled)
	if !ok || apply == nil {
		return r.fault("CONTROL-ERROR", function)
	}
	left := r.most - r.steps
	end, taken := apply(function, slices.Clone(args), left)
	r.checkCrossed()
	r.steps += min(max(taken, 0), left)
	if taken > left {
		limit(api.ErrSteps)
	}
	switch end.Kind {
	case lib.EndValues:
		return giving(end.Values...)
	case lib.EndFault:
		return state{exit: faultExit(end.Fault)}
	case lib.EndThrow:
		return r.throw(end.Tag, end.Values)
	case lib.EndLimit:
		limit(end.Code)
	}
	bad(end.Code)
	return state{}
}
