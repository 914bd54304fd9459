package table

import (
	"math/bits"

	"commonform/api"
	"commonform/heap"
)

// So many words of an object count for its hash, those that are met first: also a circle has one.
const hashedWords = 256

// Numbers for hashing: what is multiplied by them wraps.
const (
	seed      uint64 = 14695981039346656037
	byteStep  uint64 = 1099511628211
	wordStep  uint64 = 0x9e3779b97f4a7c15
	wordTurns        = 29
)

// Hash returns the hash of a word by a test.
func Hash(h *heap.Heap, test int, a heap.Word) (uint64, api.Errno) {
	if e := check(h, a); e != api.OK {
		return 0, e
	}
	if !isTest(test) {
		return 0, api.ErrArg
	}
	return hash(h, test, a, test <= EqlTest), api.OK
}

// hash returns a hash in which objects without a value count by their places, if they may.
func hash(h *heap.Heap, test int, w heap.Word, byPlace bool) uint64 {
	x := hasher{heap: h, test: test, byPlace: byPlace, left: hashedWords, sum: seed}
	x.word(w)
	return x.sum ^ x.sum>>32
}

// hasher goes through the words of an object. Words that are the same by the test are the same to it, with all that is met from them, in order.
type hasher struct {
	heap    *heap.Heap
	test    int
	byPlace bool
	left    int // how many more words count
	sum     uint64
}

func (x *hasher) add(n uint64) {
	x.sum = bits.RotateLeft64((x.sum^n)*wordStep, wordTurns)
}

func (x *hasher) text(s string) {
	sum := seed
	for i := range len(s) {
		sum = (sum ^ uint64(s[i])) * byteStep
	}
	x.add(sum)
}

func (x *hasher) word(w heap.Word) {
	x.left--
	switch {
	case x.test == Eq:
		x.add(uint64(w))
	case isNumeric(x.heap, w):
		x.number(w)
	case !w.IsRef():
		x.immediate(w)
	case x.test == EqlTest:
		x.object(w)
	default:
		x.whole(w)
	}
}

func (x *hasher) immediate(w heap.Word) {
	if x.test == EqualpTest {
		w = fold(w)
	}
	x.add(uint64(w))
}

// object adds an object that is the same as no other one.
func (x *hasher) object(w heap.Word) {
	if x.byPlace {
		x.add(uint64(w))
		return
	}
	x.add(uint64(x.heap.Kind(w)))
	x.add(uint64(x.heap.Len(w)))
}

func (x *hasher) number(w heap.Word) {
	form, ok := formOf(x.heap, w)
	if !ok {
		x.object(w)
		return
	}
	if x.test == EqualpTest {
		x.value(form)
		return
	}
	for _, part := range append([]api.Form{form}, form.Kids...) {
		x.add(uint64(part.Kind))
		x.text(part.Text)
	}
}

// value adds the values of both parts of a number.
func (x *hasher) value(form api.Form) {
	if form.Kind != api.FormComplex {
		x.text(exactText(form))
		x.text("0")
		return
	}
	for _, part := range form.Kids {
		x.text(exactText(part))
	}
}

// whole adds an object with its bytes or its parts.
func (x *hasher) whole(w heap.Word) {
	if p, ok := partsOf(x.heap, x.test, w); ok {
		x.add(uint64(p.rank()))
		x.add(uint64(p.size))
		for i := 0; i < p.size && x.left > 0; i++ {
			x.word(p.at(i))
		}
		return
	}
	kind := x.heap.Kind(w)
	text, e := x.heap.Bytes(w)
	if e != api.OK || kind != heap.KindString && kind != heap.KindBits {
		x.object(w)
		return
	}
	x.add(uint64(kind))
	x.text(text)
}
