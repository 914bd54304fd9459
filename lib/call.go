package lib

import (
	"maps"
	"slices"

	"commonform/api"
	"commonform/heap"
	"commonform/symbols"
)

// Names of conditions.
const (
	typeError      = "TYPE-ERROR"
	programError   = "PROGRAM-ERROR"
	packageError   = "PACKAGE-ERROR"
	simpleError    = "SIMPLE-ERROR"
	parseError     = "PARSE-ERROR"
	unbound        = "UNBOUND-VARIABLE"
	undefined      = "UNDEFINED-FUNCTION"
	arithmetic     = "ARITHMETIC-ERROR"
	divisionByZero = "DIVISION-BY-ZERO"
)

const (
	answerAgain = -1      // the answer of a builtin function whose Function is to be called here with Values
	maxPassed   = 1 << 20 // words that functions may hand on to one another: two lists that hand on each other do so without end
)

// operation is what a builtin function does with arguments of the right number and types. It panics with a Fault, or with the code of a limit.
type operation func(l []heap.Word) Answer

// row is a line of the tables: a function and its arguments.
type row struct{ name, arguments string }

// builtin is a builtin function of a world.
type builtin struct {
	name string
	signature
	perform operation
}

// rows returns the lines of all tables.
func rows() []row {
	return slices.Concat(consRows(), kindRows(), numberRows(), symbolRows(), textRows(), arrayRows(), valueRows(), printRows())
}

// operations returns those of all builtin functions, by their names.
func (w *World) operations() map[string]operation {
	all := map[string]operation{}
	for _, some := range []map[string]operation{
		w.consOperations(), w.kindOperations(), w.numberOperations(), w.quotientOperations(), w.symbolOperations(),
		w.textOperations(), w.arrayOperations(), w.tableOperations(), w.valueOperations(), w.printOperations(),
	} {
		maps.Copy(all, some)
	}
	return all
}

// standard returns the builtin functions of each world.
func (w *World) standard() []builtin {
	var all []builtin
	operations := w.operations()
	for _, r := range rows() {
		all = append(all, builtin{name: r.name, signature: signatureOf(r.arguments), perform: operations[r.name]})
	}
	return all
}

// Names returns the names of all builtin functions, in order.
func Names() []string {
	var all []string
	for _, r := range rows() {
		all = append(all, r.name)
	}
	return all
}

// Arity returns how many arguments a builtin function takes, at least and at most (-1: any number).
func Arity(name string) (least, most int, e api.Errno) {
	for _, r := range rows() {
		if r.name == name {
			s := signatureOf(r.arguments)
			return s.least, s.most, api.OK
		}
	}
	return 0, 0, api.ErrNone
}

// Call calls a function.
func (w *World) Call(function heap.Word, args []heap.Word) Answer {
	if w.isNone() {
		return limit(api.ErrArg)
	}
	if w.isBad(function) || slices.ContainsFunc(args, w.isBad) {
		return limit(heap.ErrWord)
	}
	a := Answer{Kind: answerAgain, Function: function, Values: args}
	for passed := 0; a.Kind == answerAgain; passed += 1 + len(a.Values) {
		if passed > maxPassed {
			return limit(api.ErrSteps)
		}
		a = w.call(a.Function, slices.Clone(a.Values))
	}
	return a
}

// call calls a function, but leaves those that a function hands on to.
func (w *World) call(function heap.Word, args []heap.Word) (a Answer) {
	defer func() {
		if r := recover(); r != nil {
			a = failed(r)
		}
	}()
	if _, isSymbol := w.numberOf(function); isSymbol {
		function = w.functionOf(function)
	}
	switch w.heap.Kind(function) {
	case heap.KindClosure, heap.KindCode:
		return Answer{Kind: AnswerNext, Function: function, Values: args}
	case heap.KindBuiltin:
		if b, ok := w.builtin(function); ok {
			return w.perform(b, args)
		}
	}
	w.failType(function, "FUNCTION")
	return Answer{}
}

// failed returns the answer that tells what a builtin function has panicked with.
func failed(r any) Answer {
	if f, ok := r.(Fault); ok {
		return Answer{Kind: AnswerFault, Fault: f}
	}
	if e, ok := r.(api.Errno); ok {
		return limit(e)
	}
	return limit(api.ErrArg) // a function that was registered has panicked
}

func limit(e api.Errno) Answer { return Answer{Kind: AnswerLimit, Code: e} }

// values returns the answer with some values.
func values(l ...heap.Word) Answer { return Answer{Values: l} }

// builtin returns the builtin function that an object stands for.
func (w *World) builtin(x heap.Word) (builtin, bool) {
	index, e := w.heap.Get(x, 0)
	n, ok := index.Fixnum()
	if e != api.OK || !ok || n < 0 || n >= int64(len(w.builtins)) {
		return builtin{}, false
	}
	return w.builtins[n], true
}

// perform calls a builtin function.
func (w *World) perform(b builtin, args []heap.Word) Answer {
	if len(args) < b.least || b.most != anyNumber && len(args) > b.most {
		w.fail(programError, w.lisp(b.name))
	}
	for i, x := range args {
		if letter := b.letter(i, len(args)); !w.isOf(letter, x) {
			w.failType(x, typeName(letter))
		}
	}
	return b.perform(args)
}

// functionOf returns the function of a symbol.
func (w *World) functionOf(symbol heap.Word) heap.Word {
	function := w.get(symbol, functionField)
	if function == heap.Unbound {
		w.fail(undefined, symbol)
	}
	return function
}

// fail ends a builtin function with a fault.
func (w *World) fail(condition string, data ...heap.Word) {
	panic(Fault{Type: condition, Data: data})
}

func (w *World) failType(x heap.Word, name string) { w.fail(typeError, x, w.lisp(name)) }

// must ends a builtin function with a limit, if there is an error.
func must(e api.Errno) {
	if e != api.OK {
		panic(e)
	}
}

// made returns a new object. One that no heap can have has no room either.
func made(x heap.Word, e api.Errno) heap.Word {
	if e == api.ErrArg {
		e = api.ErrWords
	}
	must(e)
	return x
}

// lisp returns a symbol of COMMON-LISP.
func (w *World) lisp(name string) heap.Word {
	x, e := w.Symbol(lisp, name)
	must(e)
	return x
}

// is returns T or NIL.
func (w *World) is(condition bool) Answer {
	if !condition {
		return values(heap.Nil)
	}
	return values(w.trueWord())
}

func (w *World) trueWord() heap.Word {
	if x, ok := w.known(w.truth); ok {
		return x
	}
	return w.lisp("T")
}

// Register adds a builtin function.
func (w *World) Register(name string, least, most int, f func(args []heap.Word) Answer) api.Errno {
	if w.isNone() {
		return api.ErrArg
	}
	if slices.ContainsFunc(w.builtins, func(b builtin) bool { return b.name == name }) {
		return api.ErrTwice
	}
	if f == nil || least < 0 {
		return api.ErrArg
	}
	if e := w.checkNamed(name); e != api.OK {
		return e
	}
	w.define(name, len(w.builtins))
	number, _, _ := w.table.Find(lisp, name)
	w.table.Export(lisp, number)
	anything := signature{arity: arity{least: least, most: most}, rest: 'x'}
	w.builtins = append(w.builtins, builtin{name: name, signature: anything, perform: registered(f)})
	return api.OK
}

// registered keeps the answer that only builtin functions of this package have from all others.
func registered(f operation) operation {
	return func(l []heap.Word) Answer {
		a := f(l)
		if a.Kind == answerAgain {
			return limit(api.ErrArg)
		}
		return a
	}
}

// checkNamed returns the error of a name that a further builtin function is to have, ahead of all changes.
func (w *World) checkNamed(name string) api.Errno {
	number, status, e := w.table.Find(lisp, name)
	if e != api.OK {
		return e
	}
	words := 2 // of the function
	if _, ok := w.known(number); !ok {
		words += symbolSize(name)
	}
	switch {
	case status == symbols.None && w.free() == 0:
		return api.ErrFull
	case !w.hasRoom(words):
		return api.ErrWords
	case w.clashes(number, name):
		return symbols.ErrClash
	}
	return api.OK
}

// clashes reports whether a symbol that COMMON-LISP exports would make a name of another package ambiguous.
func (w *World) clashes(number int, name string) bool {
	own, _ := w.table.Package(lisp)
	return slices.ContainsFunc(own.UsedBy, func(pack string) bool {
		other, status, _ := w.table.Find(pack, name)
		p, _ := w.table.Package(pack)
		return status != symbols.None && other != number && !slices.Contains(p.Shadowing, other)
	})
}
