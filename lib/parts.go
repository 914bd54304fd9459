package lib

import (
	"commonform/api"
	"commonform/heap"
	"commonform/symbols"
)

// Parts is what an image has of a world: the text of its packages, its output and counter, the numbers of the symbols that have objects, and these objects.
type Parts struct {
	Table, Output string
	Counter       int
	Numbers       []int
	Words         []heap.Word
}

// Parts returns what an image needs of a world.
func (w *World) Parts() Parts {
	if w.isNone() {
		return Parts{}
	}
	p := Parts{Table: w.table.Text(), Output: string(w.output), Counter: w.counter}
	for number := range w.roots {
		if x, ok := w.known(number); ok {
			p.Numbers = append(p.Numbers, number)
			p.Words = append(p.Words, x)
		}
	}
	return p
}

// Restore returns a world with some parts and objects.
func Restore(limit, young int, p Parts, cells []heap.Cell, fields []heap.Field) (*World, []heap.Word, api.Errno) {
	t, e := symbols.Parse(p.Table)
	switch {
	case e != api.OK:
		return nil, nil, api.ErrForm
	case len(p.Output) > api.MaxOutput:
		return nil, nil, api.ErrLarge
	case p.Counter < 0 || !areSymbols(t, p.Numbers) || len(fields) < len(p.Numbers)+symbolFields:
		return nil, nil, api.ErrArg
	}
	h, e := heap.New(limit, young)
	if e != api.OK {
		return nil, nil, e
	}
	words, e := h.Lay(cells, fields)
	if e != api.OK {
		return nil, nil, e
	}
	w := newWorld(h, t)
	w.counter, w.output = p.Counter, []byte(p.Output)
	objects, rest := words[:len(p.Numbers)], words[len(p.Numbers):]
	for i, x := range rest[:symbolFields] {
		h.Set(heap.Nil, i, x)
	}
	for i, number := range p.Numbers {
		if !w.isObject(number, objects[i]) {
			return nil, nil, ErrNoSymbol
		}
		w.hold(number, objects[i])
	}
	if number, status, _ := t.Find(lisp, "T"); status != symbols.None {
		w.truth = number
	}
	return w, rest[symbolFields:], api.OK
}

// areSymbols reports whether numbers are ascending ones of symbols, from that of NIL on.
func areSymbols(t *symbols.Table, numbers []int) bool {
	if len(numbers) == 0 || numbers[0] != 0 {
		return false
	}
	for i, number := range numbers {
		_, _, e := t.Symbol(number)
		if e != api.OK || i > 0 && number <= numbers[i-1] {
			return false
		}
	}
	return true
}

// isObject reports whether a word can be the object of a symbol: that of the first one, and of no other one, is NIL.
func (w *World) isObject(number int, x heap.Word) bool {
	if (number == 0) != (x == heap.Nil) || w.heap.Kind(x) != heap.KindSymbol || w.heap.Len(x) != symbolFields || !w.hasFields(x) {
		return false
	}
	name, _, _ := w.table.Symbol(number)
	text := w.get(x, nameField)
	return w.get(x, numberField) == fixnum(number) && w.isString(text) && w.text(text) == name
}
