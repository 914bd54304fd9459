package lib

import (
	"slices"

	"commonform/api"
	"commonform/heap"
	"commonform/table"
)

const maxTimes = 10000 // how often NTH and NTHCDR go on at most

// consRows are the functions of conses, with their arguments.
func consRows() []row {
	return []row{
		{"CONS", "x x"}, {"CAR", "l"}, {"CDR", "l"}, {"RPLACA", "d x"}, {"RPLACD", "d x"}, {"LIST", "x.."}, {"LIST*", "x x.."},
		{"CONSP", "x"}, {"ATOM", "x"}, {"LISTP", "x"}, {"NULL", "x"}, {"NOT", "x"},
		{"APPEND", "x.."}, {"REVERSE", "p"}, {"NTH", "k l"}, {"NTHCDR", "k l"}, {"LAST", "l"}, {"LENGTH", "q"},
		{"MEMBER", "x p"}, {"ASSOC", "x p"}, {"COPY-LIST", "p"},
	}
}

func (w *World) consOperations() map[string]operation {
	isNil := func(l []heap.Word) Answer { return w.is(l[0] == heap.Nil) }
	return map[string]operation{
		"CONS":      func(l []heap.Word) Answer { return values(w.cons(l[0], l[1])) },
		"CAR":       func(l []heap.Word) Answer { return values(w.first(l[0])) },
		"CDR":       func(l []heap.Word) Answer { return values(w.behind(l[0])) },
		"RPLACA":    func(l []heap.Word) Answer { return w.replace(l[0], 0, l[1]) },
		"RPLACD":    func(l []heap.Word) Answer { return w.replace(l[0], 1, l[1]) },
		"LIST":      func(l []heap.Word) Answer { return values(w.list(l, heap.Nil)) },
		"LIST*":     func(l []heap.Word) Answer { return values(w.list(l[:len(l)-1], l[len(l)-1])) },
		"CONSP":     func(l []heap.Word) Answer { return w.is(w.isCons(l[0])) },
		"ATOM":      func(l []heap.Word) Answer { return w.is(!w.isCons(l[0])) },
		"LISTP":     func(l []heap.Word) Answer { return w.is(w.isList(l[0])) },
		"NULL":      isNil,
		"NOT":       isNil,
		"APPEND":    w.appendLists,
		"REVERSE":   w.reverse,
		"NTH":       func(l []heap.Word) Answer { return values(w.first(w.nthCdr(l[0], l[1]))) },
		"NTHCDR":    func(l []heap.Word) Answer { return values(w.nthCdr(l[0], l[1])) },
		"LAST":      w.last,
		"LENGTH":    func(l []heap.Word) Answer { return values(fixnum(w.length(l[0]))) },
		"MEMBER":    w.member,
		"ASSOC":     w.assoc,
		"COPY-LIST": func(l []heap.Word) Answer { return values(w.list(w.all(l[0]), heap.Nil)) },
	}
}

func (w *World) cons(a, d heap.Word) heap.Word {
	x := made(w.heap.New(heap.KindCons, 2))
	w.heap.Set(x, 0, a)
	w.heap.Set(x, 1, d)
	return x
}

// list returns a new list with a tail.
func (w *World) list(l []heap.Word, tail heap.Word) heap.Word {
	for _, x := range slices.Backward(l) {
		tail = w.cons(x, tail)
	}
	return tail
}

// all returns the elements of a proper list.
func (w *World) all(x heap.Word) []heap.Word {
	l, _ := w.elements(x)
	return l
}

// first returns the car of a list.
func (w *World) first(x heap.Word) heap.Word { return w.part(x, 0) }

// behind returns the cdr of a list.
func (w *World) behind(x heap.Word) heap.Word { return w.part(x, 1) }

func (w *World) part(x heap.Word, i int) heap.Word {
	if x == heap.Nil {
		return heap.Nil
	}
	if !w.isCons(x) {
		w.failType(x, "LIST")
	}
	return w.get(x, i)
}

func (w *World) replace(x heap.Word, i int, part heap.Word) Answer {
	w.heap.Set(x, i, part)
	return values(x)
}

func (w *World) appendLists(l []heap.Word) Answer {
	if len(l) == 0 {
		return values(heap.Nil)
	}
	var all []heap.Word
	for _, x := range l[:len(l)-1] {
		elements, ok := w.elements(x)
		if !ok {
			w.failType(x, "LIST")
		}
		all = append(all, elements...)
	}
	return values(w.list(all, l[len(l)-1]))
}

func (w *World) reverse(l []heap.Word) Answer {
	all := w.all(l[0])
	slices.Reverse(all)
	return values(w.list(all, heap.Nil))
}

// nthCdr goes on in a list so many times.
func (w *World) nthCdr(times, x heap.Word) heap.Word {
	for range w.index(times, maxTimes) {
		if x == heap.Nil {
			break
		}
		x = w.behind(x)
	}
	return x
}

// index returns an integer that is not below 0, or the greatest one that counts.
func (w *World) index(x heap.Word, most int) int {
	n, ok := x.Fixnum()
	if !ok || n > int64(most) {
		return most
	}
	return int(n)
}

func (w *World) last(l []heap.Word) Answer {
	c, last := chain{world: w, rest: l[0]}, heap.Nil
	for cell := range c.conses() {
		last = cell
	}
	if c.isCircular {
		w.failType(l[0], "LIST")
	}
	return values(last)
}

// length returns how many elements a sequence has.
func (w *World) length(x heap.Word) int {
	switch {
	case w.isString(x):
		return len([]rune(w.text(x)))
	case w.isBits(x), w.isVector(x):
		return w.heap.Len(x)
	}
	return len(w.all(x))
}

// isEql reports whether two words are eql.
func (w *World) isEql(a, b heap.Word) bool {
	same, e := table.Eql(w.heap, a, b)
	must(e)
	return same
}

func (w *World) member(l []heap.Word) Answer {
	c := chain{world: w, rest: l[1]}
	for cell := range c.conses() {
		if w.isEql(w.car(cell), l[0]) {
			return values(cell)
		}
	}
	return values(heap.Nil)
}

func (w *World) assoc(l []heap.Word) Answer {
	for _, x := range w.all(l[1]) {
		if x == heap.Nil {
			continue
		}
		if !w.isCons(x) {
			w.failType(x, "LIST")
		}
		if w.isEql(w.car(x), l[0]) {
			return values(x)
		}
	}
	return values(heap.Nil)
}

// kindRows are the functions that tell what objects are.
func kindRows() []row {
	return []row{
		{"EQ", "x x"}, {"EQL", "x x"}, {"EQUAL", "x x"}, {"EQUALP", "x x"},
		{"SYMBOLP", "x"}, {"KEYWORDP", "x"}, {"NUMBERP", "x"}, {"INTEGERP", "x"}, {"RATIONALP", "x"}, {"REALP", "x"},
		{"FLOATP", "x"}, {"COMPLEXP", "x"}, {"CHARACTERP", "x"}, {"STRINGP", "x"}, {"BIT-VECTOR-P", "x"}, {"VECTORP", "x"},
		{"ARRAYP", "x"}, {"FUNCTIONP", "x"}, {"HASH-TABLE-P", "x"},
	}
}

func (w *World) kindOperations() map[string]operation {
	tests := map[string]func(x heap.Word) bool{
		"SYMBOLP":      func(x heap.Word) bool { return w.isOf('s', x) },
		"KEYWORDP":     w.isKeyword,
		"NUMBERP":      w.isNumber,
		"INTEGERP":     w.isInteger,
		"RATIONALP":    w.isRational,
		"REALP":        func(x heap.Word) bool { return w.isOf('r', x) },
		"FLOATP":       w.isFloat,
		"COMPLEXP":     w.isComplex,
		"CHARACTERP":   func(x heap.Word) bool { return w.isOf('c', x) },
		"STRINGP":      w.isString,
		"BIT-VECTOR-P": w.isBits,
		"VECTORP":      func(x heap.Word) bool { return w.isString(x) || w.isBits(x) || w.isVector(x) },
		"ARRAYP":       w.isAnyArray,
		"FUNCTIONP":    w.isFunction,
		"HASH-TABLE-P": w.isTable,
	}
	relation := func(same func(*heap.Heap, heap.Word, heap.Word) (bool, api.Errno)) operation {
		return func(l []heap.Word) Answer {
			is, e := same(w.heap, l[0], l[1])
			must(e)
			return w.is(is)
		}
	}
	all := map[string]operation{
		"EQ":     func(l []heap.Word) Answer { return w.is(l[0] == l[1]) },
		"EQL":    relation(table.Eql),
		"EQUAL":  relation(table.Equal),
		"EQUALP": relation(table.Equalp),
	}
	for name, test := range tests {
		all[name] = func(l []heap.Word) Answer { return w.is(test(l[0])) }
	}
	return all
}

func (w *World) isKeyword(x heap.Word) bool {
	home, _, e := w.Name(x)
	return e == api.OK && home == keyword
}
