package heap

import (
	"math/rand"
	"slices"
	"testing"

	"commonform/api"
)

// P15.1: examples and bounds of words.
func TestWords(t *testing.T) {
	for n, wanted := range map[int64]Word{5: 40, -1: 1<<64 - 8, 0: 0, 1<<60 - 1: 1<<63 - 8, -1 << 60: 1 << 63} {
		if w, e := Fix(n); e != api.OK || w != wanted {
			t.Errorf("Fix(%d) = %d, %v; want %d", n, w, e, wanted)
		}
	}
	for _, n := range []int64{1 << 60, -1<<60 - 1, 1<<63 - 1, -1 << 63} {
		if w, e := Fix(n); e != api.ErrRange || w != 0 {
			t.Errorf("Fix(%d) = %d, %v; want ErrRange", n, w, e)
		}
	}
	for c, wanted := range map[rune]Word{'a': 777, 0: 1, 0x10ffff: 0x10ffff<<3 | 1, 0xd7ff: 0xd7ff<<3 | 1, 0xe000: 0xe000<<3 | 1} {
		if w, e := Char(c); e != api.OK || w != wanted {
			t.Errorf("Char(%d) = %d, %v; want %d", c, w, e, wanted)
		}
	}
	for _, c := range []rune{-1, 0xd800, 0xdfff, 0x110000, 1<<31 - 1, -1 << 31} {
		if w, e := Char(c); e != api.ErrRange || w != 0 {
			t.Errorf("Char(%d) = %d, %v; want ErrRange", c, w, e)
		}
	}
	if Unbound != 2 || Nil != 3 {
		t.Errorf("Unbound is %d, Nil %d", Unbound, Nil)
	}
	kinds := []int{KindTable, KindEntry, KindClosure, KindCode, KindBuiltin, KindClass, KindInstance, KindGeneric, KindMethod, KindWeak, KindPackage, KindBox, KindEphemeron}
	for i, kind := range kinds {
		if kind != 13+i {
			t.Errorf("the kind %d is %d", 13+i, kind)
		}
	}
	kinds = []int{KindSymbol, KindInt, KindRatio, KindSingle, KindDouble, KindComplex, 7, KindString, KindBits, KindCons, KindVector, KindArray}
	for i, kind := range kinds {
		if kind != 1+i {
			t.Errorf("the kind %d of forms is %d", 1+i, kind)
		}
	}
	if KindLast != 31 {
		t.Errorf("the last kind is %d", KindLast)
	}
}

// P15.2.
func TestWordLaws(t *testing.T) {
	r := rand.New(rand.NewSource(1))
	for range 100000 {
		n := int64(r.Uint64()) >> (3 + r.Intn(61))
		w, e := Fix(n)
		if m, ok := w.Fixnum(); e != api.OK || !ok || m != n {
			t.Fatalf("Fixnum of Fix(%d) = %d, %v, %v", n, m, ok, e)
		}
		c := rune(r.Intn(0x110000))
		w, e = Char(c)
		d, ok := w.Character()
		if isSurrogate := c >= 0xd800 && c <= 0xdfff; isSurrogate == ok || ok && d != c || (e == api.OK) != ok {
			t.Fatalf("Character of Char(%d) = %d, %v, %v", c, d, ok, e)
		}
	}
	words := append(badWords(), 0, 40, 777, Unbound, Nil, 51, 1<<63|3, 1<<64-5, 1<<64-8)
	for range 100000 {
		words = append(words, Word(r.Uint64()), Word(r.Intn(1<<25)))
	}
	for _, w := range words {
		n, isFixnum := w.Fixnum()
		c, isCharacter := w.Character()
		kinds := 0
		for _, is := range []bool{isFixnum, isCharacter, w == Unbound, w.IsRef()} {
			if is {
				kinds++
			}
		}
		isBad := w&7 > 3 || w&7 == 2 && w != 2 || w&7 == 1 && (w>>3 > 0x10ffff || w>>3 >= 0xd800 && w>>3 <= 0xdfff)
		if kinds != 1 && !isBad || kinds != 0 && isBad || isBad != slices.Contains(badWords(), w) && w < 1<<20 && !isBad {
			t.Fatalf("the word %d is of %d kinds", w, kinds)
		}
		if !isFixnum && n != 0 || !isCharacter && c != 0 {
			t.Fatalf("the word %d has the values %d and %d", w, n, c)
		}
	}
}
