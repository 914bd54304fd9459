package lib

import (
	"commonform/api"
	"commonform/heap"
	"commonform/table"
)

const (
	maxElements = 16384 // of an array
	maxRank     = 7
)

// arrayRows are the functions of arrays and hash tables, with their arguments.
func arrayRows() []row {
	return []row{
		{"VECTOR", "x.."}, {"MAKE-ARRAY", "x [x]"}, {"AREF", "v k.."}, {"%ASET", "v k.. x"}, {"ARRAY-DIMENSIONS", "v"}, {"ARRAY-RANK", "v"},
		{"MAKE-HASH-TABLE", "s"}, {"GETHASH", "x h [x]"}, {"%PUTHASH", "x h x"}, {"REMHASH", "x h"}, {"CLRHASH", "h"},
		{"HASH-TABLE-COUNT", "h"}, {"HASH-KEYS", "h"},
	}
}

func (w *World) arrayOperations() map[string]operation {
	return map[string]operation{
		"VECTOR":           func(l []heap.Word) Answer { return values(w.vector(l)) },
		"MAKE-ARRAY":       w.makeArray,
		"AREF":             w.aref,
		"%ASET":            w.aset,
		"ARRAY-DIMENSIONS": func(l []heap.Word) Answer { return values(w.list(fixnums(w.shape(l[0])), heap.Nil)) },
		"ARRAY-RANK":       func(l []heap.Word) Answer { return values(fixnum(len(w.shape(l[0])))) },
	}
}

func (w *World) tableOperations() map[string]operation {
	return map[string]operation{
		"MAKE-HASH-TABLE":  w.makeTable,
		"GETHASH":          w.getHash,
		"%PUTHASH":         w.putHash,
		"REMHASH":          w.removeHash,
		"CLRHASH":          w.clearHash,
		"HASH-TABLE-COUNT": w.countHash,
		"HASH-KEYS":        w.hashKeys,
	}
}

// isAnyArray reports whether a word is a string, a bit vector, a vector, or an array of another rank.
func (w *World) isAnyArray(x heap.Word) bool {
	return w.isString(x) || w.isBits(x) || w.isVector(x) || w.isArray(x)
}

func fixnums(l []int) []heap.Word {
	var all []heap.Word
	for _, n := range l {
		all = append(all, fixnum(n))
	}
	return all
}

// vector returns a new vector.
func (w *World) vector(l []heap.Word) heap.Word {
	x := made(w.heap.New(heap.KindVector, len(l)))
	for i, element := range l {
		w.heap.Set(x, i, element)
	}
	return x
}

// shape returns the dimensions of an array.
func (w *World) shape(x heap.Word) []int {
	if !w.isArray(x) {
		return []int{w.length(x)}
	}
	v, _ := w.arrayParts(x)
	dims, _ := w.dimensions(v)
	return dims
}

func (w *World) makeArray(l []heap.Word) Answer {
	wanted, ok := w.elements(l[0])
	if w.isInteger(l[0]) {
		wanted, ok = l[:1], true
	}
	for _, x := range wanted {
		ok = ok && w.isOf('k', x)
	}
	if !ok {
		w.failType(l[0], "LIST")
	}
	var dims []int
	for _, x := range wanted {
		if !isFixnum(x) {
			panic(api.ErrWords)
		}
		n, _ := x.Fixnum()
		dims = append(dims, int(n))
	}
	if len(dims) > maxRank || product(dims) > maxElements {
		panic(api.ErrWords)
	}
	elements := made(w.heap.New(heap.KindVector, product(dims)))
	if len(l) > 1 {
		for i := range product(dims) {
			w.heap.Set(elements, i, l[1])
		}
	}
	if len(dims) == 1 {
		return values(elements)
	}
	v := w.vector(wanted)
	x := made(w.heap.New(heap.KindArray, arrayFields))
	w.heap.Set(x, 0, v)
	w.heap.Set(x, 1, elements)
	return values(x)
}

// place returns where the element with some indices stands among all, in row-major order.
func (w *World) place(name string, x heap.Word, indices []heap.Word) int {
	dims, at := w.shape(x), 0
	if len(indices) != len(dims) {
		w.fail(programError, w.lisp(name))
	}
	for k, index := range indices {
		i := w.index(index, dims[k])
		if i == dims[k] {
			w.failType(index, "INTEGER")
		}
		at = at*dims[k] + i
	}
	return at
}

func (w *World) aref(l []heap.Word) Answer {
	x := l[0]
	at := w.place("AREF", x, l[1:])
	switch {
	case w.isString(x):
		return values(character(w.runes(x)[at]))
	case w.isBits(x):
		if w.text(x)[at] != '1' {
			return values(fixnum(0))
		}
		return values(fixnum(1))
	case w.isVector(x):
		return values(w.get(x, at))
	}
	_, elements := w.arrayParts(x)
	return values(w.get(elements, at))
}

func (w *World) aset(l []heap.Word) Answer {
	x, last := l[0], len(l)-1
	if w.isString(x) || w.isBits(x) {
		w.failType(x, "ARRAY")
	}
	at := w.place("%ASET", x, l[1:last])
	if w.isArray(x) {
		_, x = w.arrayParts(x)
	}
	w.heap.Set(x, at, l[last])
	return values(l[last])
}

// isTable reports whether a word refers to a hash table.
func (w *World) isTable(x heap.Word) bool {
	_, _, e := table.Test(w.heap, x)
	return e == api.OK
}

func (w *World) makeTable(l []heap.Word) Answer {
	tests := map[string]int{"EQ": table.Eq, "EQL": table.EqlTest, "EQUAL": table.EqualTest, "EQUALP": table.EqualpTest}
	_, name, _ := w.Name(l[0])
	test, ok := tests[name]
	if !ok {
		w.failType(l[0], "FUNCTION")
	}
	return values(made(table.New(w.heap, test, false)))
}

func (w *World) getHash(l []heap.Word) Answer {
	x, there, e := table.Get(w.heap, l[1], l[0])
	must(e)
	if there {
		return values(x, w.trueWord())
	}
	if len(l) > 2 {
		return values(l[2], heap.Nil)
	}
	return values(heap.Nil, heap.Nil)
}

func (w *World) putHash(l []heap.Word) Answer {
	must(table.Put(w.heap, l[1], l[0], l[2]))
	return values(l[2])
}

func (w *World) removeHash(l []heap.Word) Answer {
	there, e := table.Remove(w.heap, l[1], l[0])
	must(e)
	return w.is(there)
}

func (w *World) clearHash(l []heap.Word) Answer {
	must(table.Clear(w.heap, l[0]))
	return values(l[0])
}

func (w *World) countHash(l []heap.Word) Answer {
	n, e := table.Count(w.heap, l[0])
	must(e)
	return values(fixnum(n))
}

func (w *World) hashKeys(l []heap.Word) Answer {
	keys, e := table.Keys(w.heap, l[0])
	must(e)
	return values(w.list(keys, heap.Nil))
}
