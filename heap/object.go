package heap

import (
	"iter"
	"math/bits"
	"slices"
	"strings"

	"commonform/api"
)

const (
	maxFields    = 16384
	maxBytes     = 131072
	bytesOfWord  = 8
	kindBits     = 5
	rawBit       = 1 << kindBits
	lengthPlace  = kindBits + 1
	placesOfBits = 64 // places whose bits lie in one word
)

// header says what an object is. It lies in the first word of the object.
type header struct {
	kind, length int
	raw          bool // it has bytes
}

func (x header) pack() Word {
	w := Word(x.length)<<lengthPlace | Word(x.kind)
	if x.raw {
		w |= rawBit
	}
	return w
}

func unpackHeader(w Word) header {
	return header{kind: int(w & (rawBit - 1)), length: int(w >> lengthPlace), raw: w&rawBit != 0}
}

// size returns how many words an object takes.
func (x header) size() int {
	if x.raw {
		return 1 + (x.length+bytesOfWord-1)/bytesOfWord
	}
	return 1 + x.length
}

// check returns the error of an object that is to be made.
func (x header) check() api.Errno {
	most := maxFields
	if x.raw {
		most = maxBytes
	}
	if x.kind < 1 || x.kind > KindLast || x.length < 0 || x.length > most {
		return api.ErrArg
	}
	return api.OK
}

// New returns a new object with fields.
func (h *Heap) New(kind, fields int) (Word, api.Errno) {
	return h.make(header{kind: kind, length: fields})
}

// Raw returns a new object with bytes.
func (h *Heap) Raw(kind int, bytes string) (Word, api.Errno) {
	w, e := h.make(header{kind: kind, length: len(bytes), raw: true})
	if e != api.OK {
		return 0, e
	}
	h.write(w, bytes)
	return w, api.OK
}

func (h *Heap) make(x header) (Word, api.Errno) {
	if h.isNone() {
		return 0, api.ErrArg
	}
	if e := x.check(); e != api.OK {
		return 0, e
	}
	if len(h.words)+x.size() > h.limit {
		return 0, api.ErrWords
	}
	return h.add(x), api.OK
}

// add adds an object behind all others, with fields that are Nil.
func (h *Heap) add(x header) Word {
	at := len(h.words)
	h.words = append(h.words, x.pack())
	for range x.size() - 1 {
		h.words = append(h.words, Nil)
	}
	h.begin(at)
	return reference(at)
}

// begin notes where the last object begins.
func (h *Heap) begin(at int) {
	for len(h.begins)*placesOfBits < len(h.words) {
		h.begins = append(h.begins, 0)
	}
	h.begins[at/placesOfBits] |= 1 << (at % placesOfBits)
}

// find returns the place of the object to which a word is a reference.
func (h *Heap) find(w Word) (at int, ok bool) {
	if h == nil || !w.IsRef() || w>>tagBits >= Word(len(h.words)) {
		return 0, false
	}
	at = int(w >> tagBits)
	return at, h.begins[at/placesOfBits]>>(at%placesOfBits)&1 == 1
}

func (h *Heap) header(at int) header { return unpackHeader(h.words[at]) }

// content returns the words of the object at a place behind its header, in the heap's own memory.
func (h *Heap) content(at int) []Word { return h.words[at+1 : at+h.header(at).size()] }

// fields returns the fields of the object at a place, in the heap's own memory; none of one with bytes.
func (h *Heap) fields(at int) []Word {
	if h.header(at).raw {
		return nil
	}
	return h.content(at)
}

// write puts the bytes of a new object in its words, the first one lowest.
func (h *Heap) write(w Word, bytes string) {
	at, _ := h.find(w)
	words := h.content(at)
	clear(words)
	put := func(i int, b byte) { words[i/bytesOfWord] |= Word(b) << (i % bytesOfWord * 8) }
	for i := range len(bytes) {
		put(i, bytes[i])
	}
}

// bytes returns the bytes of the object at a place; none of one with fields.
func (h *Heap) bytes(at int) string {
	x := h.header(at)
	if !x.raw {
		return ""
	}
	words := h.content(at)
	take := func(i int) byte { return byte(words[i/bytesOfWord] >> (i % bytesOfWord * 8)) }
	var text strings.Builder
	text.Grow(x.length)
	for i := range x.length {
		text.WriteByte(take(i))
	}
	return text.String()
}

// Kind returns the kind of an object, 0 for all other words.
func (h *Heap) Kind(w Word) int {
	at, ok := h.find(w)
	if !ok {
		return 0
	}
	return h.header(at).kind
}

// Len returns the number of fields or bytes of an object.
func (h *Heap) Len(w Word) int {
	at, ok := h.find(w)
	if !ok {
		return 0
	}
	return h.header(at).length
}

// Place returns the place of an object, -1 for all other words.
func (h *Heap) Place(w Word) int {
	at, ok := h.find(w)
	if !ok {
		return -1
	}
	return at
}

// Get returns a field.
func (h *Heap) Get(w Word, i int) (Word, api.Errno) {
	at, e := h.field(w, i)
	if e != api.OK {
		return 0, e
	}
	return h.words[at], api.OK
}

// Set changes a field.
func (h *Heap) Set(w Word, i int, x Word) api.Errno {
	at, e := h.field(w, i)
	if e != api.OK {
		return e
	}
	if !h.has(x) {
		return ErrWord
	}
	h.words[at] = x
	return api.OK
}

// field returns where a field lies among the words.
func (h *Heap) field(w Word, i int) (int, api.Errno) {
	if h.isNone() {
		return 0, api.ErrArg
	}
	at, ok := h.find(w)
	if !ok {
		return 0, ErrWord
	}
	x := h.header(at)
	switch {
	case x.raw:
		return 0, ErrRaw
	case i < 0 || i >= x.length:
		return 0, api.ErrRange
	}
	return at + 1 + i, api.OK
}

// Bytes returns the bytes of an object.
func (h *Heap) Bytes(w Word) (string, api.Errno) {
	if h.isNone() {
		return "", api.ErrArg
	}
	at, ok := h.find(w)
	if !ok {
		return "", ErrWord
	}
	if !h.header(at).raw {
		return "", ErrRaw
	}
	return h.bytes(at), api.OK
}

// objects comes to the places of the objects ahead of an end.
func (h *Heap) objects(end int) iter.Seq[int] {
	return func(yield func(int) bool) {
		for at := 0; at < end; at += h.header(at).size() {
			if !yield(at) {
				return
			}
		}
	}
}

// Objects returns the references to all objects, by their places.
func (h *Heap) Objects() []Word {
	if h == nil {
		return nil
	}
	count := 0
	for _, places := range h.begins {
		count += bits.OnesCount64(places)
	}
	all := make([]Word, 0, count)
	for at := range h.objects(len(h.words)) {
		all = append(all, reference(at))
	}
	return all
}

// Remembered returns the old objects that have a reference to a young one.
func (h *Heap) Remembered() []Word {
	isYoung := func(w Word) bool { return w.IsRef() && int(w>>tagBits) >= h.old }
	var all []Word
	for at := range h.objects(h.Old()) {
		if slices.ContainsFunc(h.fields(at), isYoung) {
			all = append(all, reference(at))
		}
	}
	return all
}
