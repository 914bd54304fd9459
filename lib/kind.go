package lib

import (
	"iter"

	"commonform/api"
	"commonform/forms"
	"commonform/heap"
)

// named returns the form of an object that has no parts: a character, a symbol, or the symbol that stands for it.
func (w *World) named(x heap.Word) api.Form {
	if c, ok := x.Character(); ok {
		return api.Form{Kind: api.FormChar, Text: string(c)}
	}
	if home, name, e := w.Name(x); e == api.OK {
		return forms.Symbol(home, name)
	}
	if x == heap.Unbound {
		return forms.Symbol(noForm, "UNBOUND")
	}
	return forms.Symbol(noForm, kindName(w.heap.Kind(x)))
}

// kindName returns what objects of a kind without a form are called.
func kindName(kind int) string {
	switch kind {
	case heap.KindTable:
		return "TABLE"
	case heap.KindEntry:
		return "ENTRY"
	case heap.KindClosure, heap.KindCode:
		return "CLOSURE"
	case heap.KindBuiltin:
		return "BUILTIN"
	case heap.KindClass:
		return "CLASS"
	case heap.KindInstance:
		return "INSTANCE"
	case heap.KindGeneric:
		return "GENERIC"
	case heap.KindMethod:
		return "METHOD"
	case heap.KindWeak:
		return "WEAK"
	case heap.KindPackage:
		return "PACKAGE"
	case heap.KindBox:
		return "BOX"
	case heap.KindEphemeron:
		return "EPHEMERON"
	}
	return "OBJECT"
}

// hasFields reports whether a word refers to an object with fields.
func (w *World) hasFields(x heap.Word) bool {
	_, e := w.heap.Get(x, 0)
	return e == api.OK || e == api.ErrRange
}

// isRaw reports whether a word refers to an object with bytes.
func (w *World) isRaw(x heap.Word) bool {
	_, e := w.heap.Get(x, 0)
	return e == heap.ErrRaw
}

func (w *World) isCons(x heap.Word) bool {
	return w.heap.Kind(x) == heap.KindCons && w.heap.Len(x) == 2 && w.hasFields(x)
}

func (w *World) isVector(x heap.Word) bool {
	return w.heap.Kind(x) == heap.KindVector && w.hasFields(x)
}

func (w *World) isString(x heap.Word) bool { return w.heap.Kind(x) == heap.KindString && w.isRaw(x) }

func (w *World) isBits(x heap.Word) bool { return w.heap.Kind(x) == heap.KindBits && w.isRaw(x) }

// isArray reports whether a word refers to an object of the kind of arrays with as many elements as its dimensions say.
func (w *World) isArray(x heap.Word) bool {
	if w.heap.Kind(x) != heap.KindArray || w.heap.Len(x) != arrayFields || !w.hasFields(x) {
		return false
	}
	v, elements := w.arrayParts(x)
	if !w.isVector(v) || !w.isVector(elements) {
		return false
	}
	dims, ok := w.dimensions(v)
	return ok && product(dims) == w.heap.Len(elements)
}

// arrayParts returns the vectors of the dimensions and of the elements.
func (w *World) arrayParts(x heap.Word) (dims, elements heap.Word) {
	return w.get(x, 0), w.get(x, 1)
}

// dimensions returns the numbers that a vector has.
func (w *World) dimensions(v heap.Word) ([]int, bool) {
	var dims []int
	for _, x := range w.fields(v) {
		n, ok := x.Fixnum()
		if !ok || n < 0 {
			return nil, false
		}
		dims = append(dims, int(n))
	}
	return dims, true
}

// product returns how many elements an array has, or one more than any may have.
func product(dims []int) int {
	n := 1
	for _, d := range dims {
		if d == 0 {
			return 0
		}
	}
	for _, d := range dims {
		n *= min(d, maxElements+1)
		n = min(n, maxElements+1)
	}
	return n
}

func (w *World) isFunction(x heap.Word) bool {
	switch w.heap.Kind(x) {
	case heap.KindBuiltin, heap.KindClosure, heap.KindCode:
		return true
	}
	return false
}

func (w *World) isList(x heap.Word) bool { return x == heap.Nil || w.isCons(x) }

// get returns a field that there is.
func (w *World) get(x heap.Word, i int) heap.Word {
	field, _ := w.heap.Get(x, i)
	return field
}

func (w *World) car(x heap.Word) heap.Word { return w.get(x, 0) }

func (w *World) cdr(x heap.Word) heap.Word { return w.get(x, 1) }

func (w *World) fields(x heap.Word) []heap.Word {
	all := make([]heap.Word, 0, w.heap.Len(x))
	for i := range w.heap.Len(x) {
		all = append(all, w.get(x, i))
	}
	return all
}

// text returns the bytes of a string.
func (w *World) text(x heap.Word) string {
	text, _ := w.heap.Bytes(x)
	return text
}

// chain goes along the cdrs of a list.
type chain struct {
	world      *World
	rest       heap.Word // what is left: behind all conses the last cdr
	isCircular bool
}

// conses comes to the conses of a list. Of what was met it marks one cons, later and later ones, so that it ends in each circle, if not in the first round.
func (c *chain) conses() iter.Seq[heap.Word] {
	return func(yield func(heap.Word) bool) {
		mark, steps, next := heap.Unbound, 0, 1
		for c.world.isCons(c.rest) {
			if c.rest == mark {
				c.isCircular = true
				return
			}
			if steps == next {
				mark, next = c.rest, 2*next
			}
			steps++
			at := c.rest
			c.rest = c.world.cdr(at)
			if !yield(at) {
				return
			}
		}
	}
}

// elements returns those of a proper list.
func (w *World) elements(x heap.Word) ([]heap.Word, bool) {
	c := chain{world: w, rest: x}
	var all []heap.Word
	for cell := range c.conses() {
		all = append(all, w.car(cell))
	}
	if c.isCircular || c.rest != heap.Nil {
		return nil, false
	}
	return all, true
}
