package meaning

import (
	"commonform/api"
	"commonform/heap"
	"commonform/lib"
)

const outermost = -1 // the place behind all frames

// exit leads to a frame, by its place among all, or out of the run.
type exit struct {
	target  int
	values  []heap.Word
	segment int       // of a tagbody
	fault   lib.Fault // with which the run ends
}

func faultExit(f lib.Fault) *exit { return &exit{target: outermost, fault: f} }

// leave ends the last frame on the way of an exit.
func (r *run) leave(x *exit) state {
	last := len(r.frames) - 1
	switch f := r.frames[last].(type) {
	case *tagging:
		if last == x.target {
			return r.segment(f, x.segment)
		}
	case *dynamic:
		r.pop()
		r.restore(f)
		return state{exit: x}
	case *protecting:
		r.pop()
		return r.pushed(&cleaning{ahead: state{exit: x}}, f.node.kids[1], f.scope)
	}
	r.pop()
	if last == x.target {
		return giving(x.values...)
	}
	return state{exit: x}
}

// find returns the place of the last frame that counts.
func (r *run) find(counts func(f frame) bool) (int, bool) {
	for i := len(r.frames) - 1; i >= 0; i-- {
		if counts(r.frames[i]) {
			return i, true
		}
	}
	return 0, false
}

// exitTo leaves to the block or the tagbody that was begun with a number.
func (r *run) exitTo(id heap.Word, x exit) state {
	target, ok := r.find(func(f frame) bool {
		switch f := f.(type) {
		case *blocking:
			return f.id == id
		case *tagging:
			return f.id == id && id != heap.Unbound
		}
		return false
	})
	if ok {
		x.target = target
		return state{exit: &x}
	}
	n, isNumber := id.Fixnum()
	if r.isPart && (!isNumber || n < int64(r.first)) {
		r.cross()
	}
	return r.fault("CONTROL-ERROR")
}

// throw leaves to the innermost catch of a tag.
func (r *run) throw(tag heap.Word, values []heap.Word) state {
	target, ok := r.find(func(f frame) bool {
		c, ok := f.(*catching)
		return ok && r.isEql(c.tag, tag)
	})
	if ok {
		return state{exit: &exit{target: target, values: values}}
	}
	if r.isPart {
		r.cross()
	}
	return r.fault("CONTROL-ERROR", tag)
}

// cross ends a run, and those that it is a part of.
func (r *run) cross() {
	r.whole.isCrossed = true
	limit(ErrCross)
}

// isEql reports whether two words are the same, or equal numbers.
func (r *run) isEql(a, b heap.Word) bool {
	kind := r.heap.Kind(a)
	if a == b || kind != r.heap.Kind(b) || kind < heap.KindInt || kind > heap.KindComplex {
		return a == b
	}
	if kind == heap.KindComplex {
		return r.isEql(r.get(a, 0), r.get(b, 0)) && r.isEql(r.get(a, 1), r.get(b, 1))
	}
	x, isX := r.heap.Bytes(a)
	y, isY := r.heap.Bytes(b)
	return isX == api.OK && isY == api.OK && x == y
}

// fault calls %FAULT where a fault has happened; without it the run ends.
func (r *run) fault(condition string, data ...heap.Word) state {
	f := lib.Fault{Type: condition, Data: data}
	symbol, e := r.world.Symbol(lisp, "%FAULT")
	if e == api.ErrWords {
		limit(e)
	}
	function, _ := r.world.Function(symbol)
	if !r.isFunction(function) {
		return state{exit: faultExit(f)}
	}
	args := []heap.Word{r.symbol(lisp, condition), r.list(data)}
	r.push(&faulting{fault: f})
	return calling(function, args)
}

func (r *run) isFunction(x heap.Word) bool {
	switch r.heap.Kind(x) {
	case heap.KindBuiltin, heap.KindClosure, heap.KindCode:
		return true
	}
	return false
}
