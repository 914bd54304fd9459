package lib

import (
	"sort"

	"commonform/api"
	"commonform/heap"
	"commonform/symbols"
)

// Fields of symbols.
const (
	numberField = iota
	nameField
	valueField
	functionField
	listField
	symbolFields // how many there are
)

const (
	noSymbol = -1
	noRoot   = -1
)

// Symbol returns the object of a symbol of a package.
func (w *World) Symbol(home, name string) (heap.Word, api.Errno) {
	if w.isNone() {
		return 0, api.ErrArg
	}
	number, status, e := w.table.Find(home, name)
	if e != api.OK {
		return 0, e
	}
	if status == symbols.None {
		if e := w.checkNew(name); e != api.OK {
			return 0, e
		}
		number, _, _ = w.table.Intern(home, name)
	}
	return w.object(number)
}

// fresh returns the object of a new symbol without a home.
func (w *World) fresh(name string) (heap.Word, api.Errno) {
	if len(name) > api.MaxName {
		return 0, api.ErrSize
	}
	if e := w.checkNew(name); e != api.OK {
		return 0, e
	}
	number, _ := w.table.Fresh(name)
	return w.object(number)
}

// checkNew returns the error of a symbol that is to be made with its object, ahead of all changes.
func (w *World) checkNew(name string) api.Errno {
	switch {
	case w.free() == 0:
		return api.ErrFull
	case !w.hasRoom(symbolSize(name)):
		return api.ErrWords
	}
	return api.OK
}

// free returns how many more symbols there may be.
func (w *World) free() int {
	count := sort.Search(api.MaxSymbols, func(number int) bool {
		_, _, e := w.table.Symbol(number)
		return e != api.OK
	})
	return api.MaxSymbols - count
}

func (w *World) hasRoom(words int) bool { return w.heap.Used()+words <= w.heap.Limit() }

// rawSize returns how many words an object with so many bytes takes.
func rawSize(bytes int) int { return 1 + (bytes+7)/8 }

// symbolSize returns how many words the object of a symbol takes, with its name.
func symbolSize(name string) int { return 1 + symbolFields + rawSize(len(name)) }

// known returns the object of a symbol that has one.
func (w *World) known(number int) (heap.Word, bool) {
	if number < 0 || number >= len(w.roots) || w.roots[number] == noRoot {
		return 0, false
	}
	x, e := w.heap.At(w.roots[number])
	return x, e == api.OK
}

// object returns the object of a symbol of the table, and makes it if it is not there.
func (w *World) object(number int) (heap.Word, api.Errno) {
	if x, ok := w.known(number); ok {
		return x, api.OK
	}
	name, home, e := w.table.Symbol(number)
	if e != api.OK {
		return 0, e
	}
	if !w.hasRoom(symbolSize(name)) {
		return 0, api.ErrWords
	}
	x, _ := w.heap.New(heap.KindSymbol, symbolFields)
	w.hold(number, x)
	w.name(number, name)
	w.heap.Set(x, valueField, heap.Unbound)
	w.heap.Set(x, functionField, heap.Unbound)
	if home == lisp && name == "T" && w.truth == noSymbol {
		w.truth = number
	}
	if w.isConstant(number) {
		w.heap.Set(x, valueField, x)
	}
	return x, api.OK
}

// hold keeps the object of a symbol.
func (w *World) hold(number int, x heap.Word) {
	for len(w.roots) <= number {
		w.roots = append(w.roots, noRoot)
	}
	w.roots[number] = w.heap.Root(x)
}

// name gives the object of a symbol its first two fields.
func (w *World) name(number int, name string) api.Errno {
	x, _ := w.known(number)
	text, e := w.heap.Raw(heap.KindString, name)
	if e != api.OK {
		return e
	}
	w.heap.Set(x, numberField, fixnum(number))
	w.heap.Set(x, nameField, text)
	return api.OK
}

// numberOf returns the number of the symbol whose object a word is.
func (w *World) numberOf(x heap.Word) (int, bool) {
	if w.isNone() || w.heap.Kind(x) != heap.KindSymbol {
		return 0, false
	}
	field, _ := w.heap.Get(x, numberField)
	n, ok := field.Fixnum()
	if !ok || n < 0 || n >= int64(len(w.roots)) {
		return 0, false
	}
	own, ok := w.known(int(n))
	return int(n), ok && own == x
}

// isConstant reports whether a symbol is NIL, T, or a keyword.
func (w *World) isConstant(number int) bool {
	_, home, _ := w.table.Symbol(number)
	return number == 0 || number == w.truth || home == keyword
}

// find returns the number of a symbol, or an error.
func (w *World) find(symbol heap.Word) (int, api.Errno) {
	if w.isNone() {
		return 0, api.ErrArg
	}
	number, ok := w.numberOf(symbol)
	if !ok {
		return 0, ErrNoSymbol
	}
	return number, api.OK
}

// Name returns the home and the name of a symbol.
func (w *World) Name(x heap.Word) (home, name string, e api.Errno) {
	number, e := w.find(x)
	if e != api.OK {
		return "", "", e
	}
	name, home, e = w.table.Symbol(number)
	return home, name, e
}

// Value returns the value of a symbol, Unbound if it has none.
func (w *World) Value(symbol heap.Word) (heap.Word, api.Errno) { return w.field(symbol, valueField) }

// Function returns the function of a symbol, Unbound if it has none.
func (w *World) Function(symbol heap.Word) (heap.Word, api.Errno) {
	return w.field(symbol, functionField)
}

func (w *World) field(symbol heap.Word, i int) (heap.Word, api.Errno) {
	if _, e := w.find(symbol); e != api.OK {
		return 0, e
	}
	return w.heap.Get(symbol, i)
}

// SetValue changes the value of a symbol; Unbound takes it away.
func (w *World) SetValue(symbol, x heap.Word) api.Errno {
	number, e := w.find(symbol)
	switch {
	case e != api.OK:
		return e
	case w.isConstant(number):
		return api.ErrArg
	}
	return w.heap.Set(symbol, valueField, x)
}

// SetFunction changes the function of a symbol; Unbound takes it away.
func (w *World) SetFunction(symbol, x heap.Word) api.Errno {
	number, e := w.find(symbol)
	switch {
	case e != api.OK:
		return e
	case x == heap.Unbound && w.isConstant(number):
		return api.ErrArg
	}
	return w.heap.Set(symbol, functionField, x)
}

// fixnum returns a small number as a word.
func fixnum(n int) heap.Word {
	w, _ := heap.Fix(int64(n))
	return w
}
