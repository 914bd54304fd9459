package table

import (
	"commonform/api"
	"commonform/heap"
	"commonform/number"
)

// Eql reports whether two words are eql.
func Eql(h *heap.Heap, a, b heap.Word) (bool, api.Errno) { return relate(h, EqlTest, a, b) }

// Equal reports whether two words are equal.
func Equal(h *heap.Heap, a, b heap.Word) (bool, api.Errno) { return relate(h, EqualTest, a, b) }

// Equalp reports whether two words are equalp.
func Equalp(h *heap.Heap, a, b heap.Word) (bool, api.Errno) { return relate(h, EqualpTest, a, b) }

func relate(h *heap.Heap, test int, a, b heap.Word) (bool, api.Errno) {
	if e := check(h, a, b); e != api.OK {
		return false, e
	}
	return isSame(h, test, a, b), api.OK
}

func isSame(h *heap.Heap, test int, a, b heap.Word) bool {
	c := comparison{heap: h, test: test, unmarked: freePairs}
	return c.same(a, b)
}

// So many pairs are compared ahead of the first mark: most objects are small.
const freePairs = 32

// comparison tells whether two words are the same by a test. Pairs that were met are the same unless a further pair is not, and with this all ends.
type comparison struct {
	heap     *heap.Heap
	test     int
	unmarked int // how many more pairs are not marked
	marks    map[[2]heap.Word]bool
	links    map[heap.Word]heap.Word // of a word, to another one that is the same as it if all that were met are
}

// same reports whether nothing tells two words apart.
func (c *comparison) same(a, b heap.Word) bool {
	if a == b || c.isMet(a, b) {
		return true
	}
	if c.agree(a, b) {
		c.meet(a, b)
		return true
	}
	x, isX := partsOf(c.heap, c.test, a)
	if !isX {
		return false
	}
	y, isY := partsOf(c.heap, c.test, b)
	if !isY || !x.isLike(y) {
		return false
	}
	c.meet(a, b)
	for i := range x.size {
		if !c.same(x.at(i), y.at(i)) {
			return false
		}
	}
	return true
}

// isMet reports whether a pair was met, or follows from those that were. On two circles far more pairs can be met than do not follow from others.
func (c *comparison) isMet(a, b heap.Word) bool {
	return c.marks[[2]heap.Word{a, b}] || len(c.links) > 0 && c.end(a) == c.end(b)
}

// meet marks a pair that was not met.
func (c *comparison) meet(a, b heap.Word) {
	if c.unmarked > 0 {
		c.unmarked--
		return
	}
	if c.marks == nil {
		c.marks, c.links = map[[2]heap.Word]bool{}, map[heap.Word]heap.Word{}
	}
	c.marks[[2]heap.Word{a, b}] = true
	if from, to := c.end(a), c.end(b); from != to {
		c.links[from] = to
	}
}

// end returns the last word that links lead to; on the way they are made shorter.
func (c *comparison) end(w heap.Word) heap.Word {
	for {
		next, there := c.links[w]
		if !there {
			return w
		}
		if further, there := c.links[next]; there {
			c.links[w] = further
		}
		w = next
	}
}

// agree reports whether two words that are not the same one agree by value.
func (c *comparison) agree(a, b heap.Word) bool {
	switch {
	case c.test == Eq:
		return false
	case !a.IsRef() && !b.IsRef():
		return c.test == EqualpTest && fold(a) == fold(b)
	case isNumeric(c.heap, a) && isNumeric(c.heap, b):
		return c.sameNumbers(a, b)
	}
	return c.test >= EqualTest && c.sameBytes(a, b)
}

func (c *comparison) sameNumbers(a, b heap.Word) bool {
	x, isX := formOf(c.heap, a)
	y, isY := formOf(c.heap, b)
	if !isX || !isY {
		return false
	}
	relation := number.Eql
	if c.test == EqualpTest && (!isExact(x) || !isExact(y)) {
		relation = number.Equals
	} else if x.Kind != y.Kind || x.Text != y.Text { // which needs no look at what is no number
		return false
	}
	same, e := relation(x, y)
	return e == api.OK && same
}

// sameBytes reports whether two words are strings, or bits, with the same bytes.
func (c *comparison) sameBytes(a, b heap.Word) bool {
	kind := c.heap.Kind(a)
	if kind != c.heap.Kind(b) || kind != heap.KindString && kind != heap.KindBits || c.heap.Len(a) != c.heap.Len(b) {
		return false
	}
	x, isX := c.heap.Bytes(a)
	y, isY := c.heap.Bytes(b)
	return isX == api.OK && isY == api.OK && x == y
}
