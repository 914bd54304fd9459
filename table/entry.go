package table

import (
	"iter"

	"commonform/api"
	"commonform/heap"
)

// Fields of hash tables.
const (
	testField = iota
	weakField
	countField
	firstField
	indexField
	tableFields // their number
)

// Fields of entries.
const (
	keyField = iota
	valueField
	nextField
	chainField // the next entry that the index has in the same place
	entryFields
)

// hashTable is a hash table that was looked at.
type hashTable struct {
	heap *heap.Heap
	word heap.Word
	test int
	weak bool
}

// open returns a hash table, without keys that are gone; or the error of it and of keys and values.
func open(h *heap.Heap, word heap.Word, others ...heap.Word) (hashTable, api.Errno) {
	if e := check(h, word); e != api.OK {
		return hashTable{}, e
	}
	t, ok := read(h, word)
	if !ok {
		return hashTable{}, ErrTable
	}
	if e := check(h, others...); e != api.OK {
		return hashTable{}, e
	}
	if !t.isFresh(t.index()) {
		t.tidy()
	}
	return t, api.OK
}

// read returns what a hash table says of itself.
func read(h *heap.Heap, word heap.Word) (hashTable, bool) {
	t := hashTable{heap: h, word: word}
	if h.Kind(word) != heap.KindTable || h.Len(word) != tableFields {
		return hashTable{}, false
	}
	test, weak := t.number(word, testField), t.number(word, weakField)
	t.test, t.weak = test, weak == 1
	first := t.get(word, firstField)
	ok := isTest(test) && (weak == 0 || weak == 1) && t.count() >= 0 && (first == heap.Nil || t.isEntry(first))
	return t, ok
}

// get returns a field of an object that has it.
func (t hashTable) get(w heap.Word, i int) heap.Word {
	x, _ := t.heap.Get(w, i)
	return x
}

// set changes a field of an object that has it.
func (t hashTable) set(w heap.Word, i int, x heap.Word) { t.heap.Set(w, i, x) }

// number returns the number that a field has, -1 for none: all numbers of tables are above.
func (t hashTable) number(w heap.Word, i int) int {
	x, e := t.heap.Get(w, i)
	n, ok := x.Fixnum()
	if e != api.OK || !ok {
		return -1
	}
	return int(n)
}

func (t hashTable) setNumber(w heap.Word, i, n int) {
	x, _ := heap.Fix(int64(n))
	t.set(w, i, x)
}

func (t hashTable) count() int { return t.number(t.word, countField) }

func (t hashTable) entryKind() int {
	if t.weak {
		return heap.KindEphemeron
	}
	return heap.KindEntry
}

func (t hashTable) isEntry(w heap.Word) bool {
	return t.heap.Kind(w) == t.entryKind() && t.heap.Len(w) == entryFields
}

// entries comes to the entries in the order of their keys.
func (t hashTable) entries() iter.Seq[heap.Word] {
	return t.chain(t.word, firstField, nextField)
}

// chain comes to the entries of a list: the first one is in a field of an object, each other one in a field of the one ahead. No list is longer than the heap, unless somebody else has made it a circle.
func (t hashTable) chain(w heap.Word, first, next int) iter.Seq[heap.Word] {
	return func(yield func(heap.Word) bool) {
		entry := t.get(w, first)
		for range t.heap.Used() {
			if !t.isEntry(entry) || !yield(entry) {
				return
			}
			entry = t.get(entry, next)
		}
	}
}

// tidy takes away the keys that are gone.
func (t hashTable) tidy() {
	if !t.weak {
		return
	}
	holder, field, count := t.word, firstField, 0
	for entry := range t.entries() {
		if t.get(entry, keyField) == heap.Unbound {
			t.set(holder, field, t.get(entry, nextField))
			continue
		}
		holder, field = entry, nextField
		count++
	}
	t.setNumber(t.word, countField, count)
}

// find returns the entry of a key.
func (t hashTable) find(key heap.Word) (heap.Word, bool) {
	candidates := t.entries()
	if index := t.index(); index != heap.Nil {
		t.refresh(index)
		if !t.scans(index, key) {
			candidates = t.chain(index, t.place(index, key), chainField)
		}
	}
	for entry := range candidates {
		if isSame(t.heap, t.test, t.get(entry, keyField), key) {
			return entry, true
		}
	}
	return 0, false
}

// add adds an entry for a key that is none yet.
func (t hashTable) add(key, value heap.Word) api.Errno {
	entry, e := t.heap.New(t.entryKind(), entryFields)
	if e != api.OK {
		return e
	}
	t.set(entry, keyField, key)
	t.set(entry, valueField, value)
	if last, there := t.last(); there {
		t.set(last, nextField, entry)
	} else {
		t.set(t.word, firstField, entry)
	}
	t.setNumber(t.word, countField, t.count()+1)
	if index := t.index(); index != heap.Nil {
		t.set(index, lastField, entry)
		t.entering(index)(entry)
	}
	return api.OK
}

// last returns the last entry.
func (t hashTable) last() (last heap.Word, there bool) {
	if index := t.index(); index != heap.Nil {
		last = t.get(index, lastField)
		return last, t.isEntry(last)
	}
	for entry := range t.entries() {
		last, there = entry, true
	}
	return last, there
}

// remove takes an entry away.
func (t hashTable) remove(entry heap.Word) {
	if index := t.index(); index != heap.Nil {
		t.leave(index, entry)
	}
	holder, field := t.ahead(entry, t.word, firstField, nextField)
	t.set(holder, field, t.get(entry, nextField))
	t.setNumber(t.word, countField, t.count()-1)
}

// ahead returns the object of a list that has an entry as the next one, and in which field.
func (t hashTable) ahead(entry, w heap.Word, first, next int) (heap.Word, int) {
	holder, field := w, first
	for other := range t.chain(w, first, next) {
		if other == entry {
			break
		}
		holder, field = other, next
	}
	return holder, field
}
