package table

import (
	"math/bits"
	"slices"

	"commonform/api"
	"commonform/heap"
)

// Fields of the vector for looking keys up. What its keys hash by are places of objects, too, so it says when and where it was laid.
const (
	movesField = iota // how often the heap had been laid anew
	ownField          // the place of the vector itself, which a copy of it has not
	lastField         // the last entry
	looseField        // the sorts of loose keys
	firstPlace        // from here on: the first entries of lists
)

const (
	leastIndexed = 17   // a table with fewer keys has no index: it is looked through as fast
	mostPlaces   = 8192 // an object has no room for twice as many
)

// index returns the vector for looking keys up, Nil without one.
func (t hashTable) index() heap.Word {
	index := t.get(t.word, indexField)
	if t.heap.Kind(index) != heap.KindVector || t.heap.Len(index) <= firstPlace || !hasFields(t.heap, index) {
		return heap.Nil
	}
	return index
}

// isFresh reports whether nothing has moved since an index was laid, so that no key is gone either.
func (t hashTable) isFresh(index heap.Word) bool {
	return index != heap.Nil && t.number(index, movesField) == t.heap.Moves() && t.number(index, ownField) == t.heap.Place(index)
}

// refresh lays an index anew if something has moved.
func (t hashTable) refresh(index heap.Word) {
	if !t.isFresh(index) {
		t.lay(index)
	}
}

// grow makes an index, or a larger one, if there are more keys than places. Without room for it nothing changes: keys are found by a longer way then.
func (t hashTable) grow() {
	count, places := t.count(), 0
	index := t.index()
	if index != heap.Nil {
		places = t.heap.Len(index) - firstPlace
	}
	if count < leastIndexed {
		return
	}
	wanted := min(1<<bits.Len(uint(count-1)), mostPlaces)
	if places >= wanted {
		return
	}
	made, e := t.heap.New(heap.KindVector, firstPlace+wanted)
	if e != api.OK {
		return
	}
	t.lay(made)
	t.set(t.word, indexField, made)
}

// lay puts all entries in an index.
func (t hashTable) lay(index heap.Word) {
	t.setNumber(index, movesField, t.heap.Moves())
	t.setNumber(index, ownField, t.heap.Place(index))
	t.setNumber(index, looseField, 0)
	t.set(index, lastField, heap.Nil)
	for i := firstPlace; i < t.heap.Len(index); i++ {
		t.set(index, i, heap.Nil)
	}
	all, enter := slices.Collect(t.entries()), t.entering(index)
	for _, entry := range slices.Backward(all) { // so that those of one place stand in their order
		enter(entry)
	}
	if len(all) > 0 {
		t.set(index, lastField, all[len(all)-1])
	}
}

// entering returns what puts an entry in an index, ahead of those in the same place.
func (t hashTable) entering(index heap.Word) func(entry heap.Word) {
	return func(entry heap.Word) {
		key := t.get(entry, keyField)
		if isLoose(t.heap, t.test, key) {
			loose := t.number(index, looseField) | sortOf(t.heap, t.test, key)
			t.setNumber(index, looseField, loose)
			return
		}
		place := t.place(index, key)
		t.set(entry, chainField, t.get(index, place))
		t.set(index, place, entry)
	}
}

// leave takes an entry out of an index.
func (t hashTable) leave(index, entry heap.Word) {
	if t.get(index, lastField) == entry {
		holder, _ := t.ahead(entry, t.word, firstField, nextField)
		t.set(index, lastField, holder) // which is no entry, but the table, if there is no other one
	}
	key := t.get(entry, keyField)
	if isLoose(t.heap, t.test, key) {
		return
	}
	holder, field := t.ahead(entry, index, t.place(index, key), chainField)
	t.set(holder, field, t.get(entry, chainField))
}

// place returns the field of an index from which on a key is found.
func (t hashTable) place(index, key heap.Word) int {
	places := uint64(t.heap.Len(index) - firstPlace)
	return firstPlace + int(hash(t.heap, t.test, key, true)%places)
}

// scans reports whether a key must be looked for among all entries, since it may be the same as a loose one.
func (t hashTable) scans(index, key heap.Word) bool {
	return t.number(index, looseField)&sortOf(t.heap, t.test, key) != 0
}

// Sorts of words.
const (
	numbers = 1 << iota
	conses
	arrays
)

// sortOf returns among which sort of words there may be others that are the same as a word by a test; 0, if strings of the same bytes, or bits, are all.
func sortOf(h *heap.Heap, test int, w heap.Word) int {
	kind := h.Kind(w)
	switch {
	case test >= EqlTest && isNumeric(h, w):
		return numbers
	case test >= EqualTest && kind == heap.KindCons:
		return conses
	case test == EqualpTest && slices.Contains([]int{heap.KindString, heap.KindBits, heap.KindVector, heap.KindArray}, kind):
		return arrays
	}
	return 0
}

// isLoose reports whether a change of fields may make a word the same as another one, or other than it, by a test. Such keys are not in the places of an index, which would not know of the change.
func isLoose(h *heap.Heap, test int, w heap.Word) bool {
	return sortOf(h, test, w) != 0 && hasFields(h, w)
}
