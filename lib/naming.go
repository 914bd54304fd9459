package lib

import (
	"strconv"

	"commonform/api"
	"commonform/heap"
	"commonform/symbols"
)

// symbolRows are the functions of symbols, with their arguments.
func symbolRows() []row {
	return []row{
		{"SYMBOL-NAME", "s"}, {"SYMBOL-PACKAGE", "s"}, {"SYMBOL-VALUE", "s"}, {"SET", "s x"}, {"BOUNDP", "s"}, {"MAKUNBOUND", "s"},
		{"SYMBOL-FUNCTION", "s"}, {"%FSET", "s g"}, {"FBOUNDP", "s"}, {"FMAKUNBOUND", "s"}, {"SYMBOL-PLIST", "s"}, {"%SET-PLIST", "s x"},
		{"INTERN", "t [t]"}, {"FIND-SYMBOL", "t [t]"}, {"MAKE-SYMBOL", "t"}, {"GENSYM", "[t]"},
	}
}

func (w *World) symbolOperations() map[string]operation {
	return map[string]operation{
		"SYMBOL-NAME":     w.symbolName,
		"SYMBOL-PACKAGE":  w.symbolPackage,
		"SYMBOL-VALUE":    w.symbolValue,
		"SET":             func(l []heap.Word) Answer { w.setValue(l[0], l[1]); return values(l[1]) },
		"BOUNDP":          func(l []heap.Word) Answer { return w.is(w.get(l[0], valueField) != heap.Unbound) },
		"MAKUNBOUND":      func(l []heap.Word) Answer { w.setValue(l[0], heap.Unbound); return values(l[0]) },
		"SYMBOL-FUNCTION": func(l []heap.Word) Answer { return values(w.functionOf(l[0])) },
		"%FSET":           w.setFunction,
		"FBOUNDP":         func(l []heap.Word) Answer { return w.is(w.get(l[0], functionField) != heap.Unbound) },
		"FMAKUNBOUND":     func(l []heap.Word) Answer { w.heap.Set(l[0], functionField, heap.Unbound); return values(l[0]) },
		"SYMBOL-PLIST":    func(l []heap.Word) Answer { return values(w.get(l[0], listField)) },
		"%SET-PLIST":      func(l []heap.Word) Answer { w.heap.Set(l[0], listField, l[1]); return values(l[1]) },
		"INTERN":          w.intern,
		"FIND-SYMBOL":     w.findSymbol,
		"MAKE-SYMBOL":     func(l []heap.Word) Answer { return w.makeSymbol(w.text(l[0]), l, "") },
		"GENSYM":          w.gensym,
	}
}

// newText returns a new string.
func (w *World) newText(s string) heap.Word { return made(w.heap.Raw(heap.KindString, s)) }

func (w *World) symbolName(l []heap.Word) Answer {
	_, name, _ := w.Name(l[0])
	return values(w.newText(name))
}

func (w *World) symbolPackage(l []heap.Word) Answer {
	home, _, _ := w.Name(l[0])
	if home == "" {
		return values(heap.Nil)
	}
	return values(w.newText(home))
}

func (w *World) symbolValue(l []heap.Word) Answer {
	x := w.get(l[0], valueField)
	if x == heap.Unbound {
		w.fail(unbound, l[0])
	}
	return values(x)
}

// setValue changes the value of a symbol that is no constant.
func (w *World) setValue(symbol, x heap.Word) {
	if w.SetValue(symbol, x) != api.OK {
		w.fail(programError, symbol)
	}
}

func (w *World) setFunction(l []heap.Word) Answer {
	function := l[1]
	if w.isOf('s', function) {
		function = w.functionOf(function)
	}
	w.heap.Set(l[0], functionField, function)
	return values(function)
}

// nameAndPackage returns a name, and the package in which it is looked for.
func (w *World) nameAndPackage(l []heap.Word) (name, pack string) {
	if len(l) > 1 {
		return w.text(l[0]), w.text(l[1])
	}
	return w.text(l[0]), user
}

// failPackage ends a function with a fault for an error of layer 10.
func (w *World) failPackage(l []heap.Word) {
	if len(l) > 1 {
		w.fail(packageError, l[1])
	}
	w.fail(packageError, w.newText(user))
}

func (w *World) intern(l []heap.Word) Answer {
	name, pack := w.nameAndPackage(l)
	_, status, e := w.table.Find(pack, name)
	if e != api.OK {
		w.failPackage(l)
	}
	if status != symbols.None {
		return w.findSymbol(l)
	}
	x, e := w.Symbol(pack, name)
	if e == api.ErrFull {
		w.failPackage(l)
	}
	must(e)
	return values(x, heap.Nil)
}

func (w *World) findSymbol(l []heap.Word) Answer {
	name, pack := w.nameAndPackage(l)
	number, status, e := w.table.Find(pack, name)
	if e != api.OK {
		w.failPackage(l)
	}
	if status == symbols.None {
		return values(heap.Nil, heap.Nil)
	}
	x, e := w.object(number)
	must(e)
	told, e := w.Symbol(keyword, statusName(status))
	must(e)
	return values(x, told)
}

func statusName(status int) string {
	switch status {
	case symbols.Internal:
		return "INTERNAL"
	case symbols.External:
		return "EXTERNAL"
	}
	return "INHERITED"
}

// makeSymbol makes a symbol without a home. For an error the fault has the argument, or a new string in its place.
func (w *World) makeSymbol(name string, l []heap.Word, left string) Answer {
	x, e := w.fresh(name)
	if e == api.ErrWords {
		panic(e)
	}
	if e != api.OK && len(l) > 0 {
		w.fail(packageError, l[0])
	}
	if e != api.OK {
		w.fail(packageError, w.newText(left))
	}
	return values(x)
}

func (w *World) gensym(l []heap.Word) Answer {
	const usual = "G"
	prefix := usual
	if len(l) > 0 {
		prefix = w.text(l[0])
	}
	a := w.makeSymbol(prefix+strconv.Itoa(w.counter), l, usual)
	w.counter++
	return a
}
