package meaning

import (
	"slices"

	"commonform/api"
	"commonform/heap"
	"commonform/lib"
)

// frame is something that is still to be done with values.
type frame interface{ isFrame() }

// mark makes a struct a frame.
type mark struct{}

func (mark) isFrame() {}

// Frames, by what they wait for.
type (
	collecting struct { // the values of the first kids, which are cut
		mark
		node   *node
		scope  *scope
		count  int
		values []heap.Word
	}
	sequence struct { // the end of a kid behind which others follow
		mark
		node  *node
		scope *scope
		next  int
	}
	blocking struct { // the values of a block
		mark
		id heap.Word
	}
	tagging struct { // the end of a segment
		mark
		node  *node
		scope *scope
		id    heap.Word
		next  int
	}
	returning struct { // the values with which a block is left
		mark
		node  *node
		scope *scope
	}
	catching struct { // the values of a catch
		mark
		tag heap.Word
	}
	throwing struct { // the values that are thrown
		mark
		tag heap.Word
	}
	protecting struct { // how the first kid ends
		mark
		node  *node
		scope *scope
	}
	cleaning struct { // the end of a cleanup, behind which it goes on as ahead of it
		mark
		ahead state
	}
	dynamic struct { // the end of a body in which symbols have other values
		mark
		symbols []heap.Word
		values  []heap.Word // those that they had
	}
	spreading struct { // the arguments of a call, all values of each form
		mark
		node     *node
		scope    *scope
		function heap.Word
		args     []heap.Word
		next     int
	}
	keeping struct { // all values of the first kid, and then the ends of the others
		mark
		node   *node
		scope  *scope
		values []heap.Word
		next   int
	}
	faulting struct { // the return of %FAULT
		mark
		fault lib.Fault
	}
)

// give hands values to the last frame.
func (r *run) give(l []heap.Word) state {
	switch f := r.frames[len(r.frames)-1].(type) {
	case *collecting:
		return r.collected(f, cut(l))
	case *sequence:
		return r.further(f)
	case *tagging:
		return r.segment(f, f.next)
	case *keeping:
		return r.keep(f, l)
	case *spreading:
		return r.spread(f, l)
	case *returning:
		r.pop()
		return r.exitTo(f.scope.find(f.node.key), exit{values: l})
	case *throwing:
		r.pop()
		return r.throw(f.tag, l)
	case *protecting:
		r.pop()
		return r.pushed(&cleaning{ahead: giving(l...)}, f.node.kids[1], f.scope)
	case *cleaning:
		r.pop()
		return f.ahead
	case *dynamic:
		r.pop()
		r.restore(f)
	case *entering:
		r.pop()
		return r.entered(f, cut(l))
	case *faulting:
		r.pop()
		return state{exit: faultExit(f.fault)}
	default: // of a block, or a catch
		r.pop()
	}
	return giving(l...)
}

// collected adds a value, and goes on with the next kid, or finishes the node.
func (r *run) collected(f *collecting, x heap.Word) state {
	f.values = append(f.values, x)
	if len(f.values) < f.count {
		return beginning(f.node.kids[len(f.values)], f.scope)
	}
	r.pop()
	return r.finish(f)
}

func (r *run) further(f *sequence) state {
	n := f.node.kids[f.next]
	f.next++
	if f.next == len(f.node.kids) {
		r.pop()
	}
	return beginning(n, f.scope)
}

// segment goes on with a segment of a tagbody, or ends it behind the last one.
func (r *run) segment(f *tagging, i int) state {
	if i == len(f.node.kids) {
		r.pop()
		return giving(heap.Nil)
	}
	f.next = i + 1
	return beginning(f.node.kids[i], f.scope)
}

func (r *run) keep(f *keeping, l []heap.Word) state {
	if f.next == 0 {
		f.values = slices.Clone(l)
	}
	f.next++
	if f.next == len(f.node.kids) {
		r.pop()
		return giving(f.values...)
	}
	return beginning(f.node.kids[f.next], f.scope)
}

func (r *run) spread(f *spreading, l []heap.Word) state {
	f.args = append(f.args, l...)
	f.next++
	if f.next == len(f.node.kids) {
		r.pop()
		return calling(f.function, f.args)
	}
	return beginning(f.node.kids[f.next], f.scope)
}

// finish goes on when the first kids of a node have their values.
func (r *run) finish(f *collecting) state {
	n, s, l := f.node, f.scope, f.values
	switch n.Op {
	case api.CoreSet:
		r.heap.Set(s.find(n.key), 0, l[0])
		return giving(l[0])
	case api.CoreSetSpecial:
		return r.setSpecial(r.symbolOf(n.Data), l[0])
	case api.CoreCall:
		return calling(l[0], l[1:])
	case api.CoreCallGlobal:
		found := r.global(n)
		if len(found.values) == 0 { // a fault
			return found
		}
		return calling(found.values[0], l)
	case api.CoreIf:
		if l[0] != heap.Nil {
			return beginning(n.kids[1], s)
		}
		return beginning(n.kids[2], s)
	case api.CoreLet:
		for i, v := range n.Vars {
			s = r.bind(s, v, l[i])
		}
		return beginning(n.last(), s)
	case api.CoreBind:
		var symbols []heap.Word
		for _, f := range n.Syms {
			symbols = append(symbols, r.symbolOf(f))
		}
		return r.bindDynamic(symbols, l, n, s)
	case api.CoreProgv:
		return r.progv(l[0], l[1], n, s)
	case api.CoreCatch:
		return r.pushed(&catching{tag: l[0]}, n.kids[1], s)
	case api.CoreThrow:
		return r.pushed(&throwing{tag: l[0]}, n.kids[1], s)
	}
	if len(n.kids) == 1 { // of a CoreValuesCall
		return calling(l[0], nil)
	}
	return r.pushed(&spreading{node: n, scope: s, function: l[0], next: 1}, n.kids[1], s)
}

func (r *run) setSpecial(symbol, x heap.Word) state {
	if r.world.SetValue(symbol, x) != api.OK {
		return r.fault("PROGRAM-ERROR", symbol)
	}
	return giving(x)
}
