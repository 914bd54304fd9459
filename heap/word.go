package heap

import (
	"unicode/utf8"

	"commonform/api"
)

// Word is a word: a fixnum, a character, a mark, or a reference to an object.
type Word uint64

// A word has a tag in its lowest bits, and a value in the others.
const (
	tagBits = 3
	tagMask = 1<<tagBits - 1
)

// Tags of words.
const (
	tagFixnum = iota
	tagCharacter
	tagUnbound
	tagReference
)

// Unbound is the mark of what has no value; Nil is the reference to the first object, the symbol NIL.
const (
	Unbound Word = tagUnbound
	Nil     Word = tagReference
)

const (
	leastFixnum    = -1 << 60
	greatestFixnum = 1<<60 - 1
)

func (w Word) tag() int { return int(w & tagMask) }

// Fix returns the fixnum n.
func Fix(n int64) (Word, api.Errno) {
	if n < leastFixnum || n > greatestFixnum {
		return 0, api.ErrRange
	}
	return Word(n)<<tagBits | tagFixnum, api.OK
}

// Fixnum returns the value of a fixnum.
func (w Word) Fixnum() (int64, bool) {
	if w.tag() != tagFixnum {
		return 0, false
	}
	return int64(w) >> tagBits, true
}

// Char returns a character.
func Char(c rune) (Word, api.Errno) {
	if !utf8.ValidRune(c) {
		return 0, api.ErrRange
	}
	return Word(c)<<tagBits | tagCharacter, api.OK
}

// Character returns the code of a character.
func (w Word) Character() (rune, bool) {
	code := w >> tagBits
	if w.tag() != tagCharacter || code > utf8.MaxRune || !utf8.ValidRune(rune(code)) {
		return 0, false
	}
	return rune(code), true
}

// IsRef reports whether a word has the tag of references.
func (w Word) IsRef() bool { return w.tag() == tagReference }

// isImmediate reports whether a word says all by itself.
func (w Word) isImmediate() bool {
	_, isCharacter := w.Character()
	return w.tag() == tagFixnum || isCharacter || w == Unbound
}

// reference returns the reference to the object at a place.
func reference(place int) Word { return Word(place)<<tagBits | tagReference }
