package lib

import (
	"strings"

	"commonform/heap"
)

const anyNumber = -1 // of arguments

// typeNames are the types of arguments, in their order.
const typeNames = "LIST SEQUENCE SYMBOL NUMBER REAL RATIONAL INTEGER UNSIGNED-BYTE CHARACTER STRING ARRAY HASH-TABLE CONS FUNCTION"

// arity says how many arguments a function takes.
type arity struct{ least, most int }

// signature says what arguments a function takes: letters for their types.
type signature struct {
	arity
	first []byte // of those on the left, which may be left out from the least number on
	rest  byte   // of any number of further ones; 0 for none
	last  []byte // of those on the right
}

// signatureOf reads what the tables say of arguments.
func signatureOf(text string) signature {
	var s signature
	for word := range strings.FieldsSeq(text) {
		letter := strings.Trim(word, "[].")[0]
		switch {
		case strings.HasSuffix(word, ".."):
			s.rest = letter
			continue
		case s.rest != 0:
			s.last = append(s.last, letter)
		default:
			s.first = append(s.first, letter)
		}
		if word[0] != '[' {
			s.least++
		}
	}
	s.most = len(s.first)
	if s.rest != 0 {
		s.most = anyNumber
	}
	return s
}

// letter returns the type of one of so many arguments.
func (s signature) letter(i, count int) byte {
	switch fromEnd := count - i; {
	case fromEnd <= len(s.last):
		return s.last[len(s.last)-fromEnd]
	case i < len(s.first):
		return s.first[i]
	}
	return s.rest
}

// typeName returns the name of the type that a letter stands for.
func typeName(letter byte) string {
	switch letter {
	case 'l', 'p':
		return "LIST"
	case 'q':
		return "SEQUENCE"
	case 's':
		return "SYMBOL"
	case 'n':
		return "NUMBER"
	case 'r':
		return "REAL"
	case 'a':
		return "RATIONAL"
	case 'i':
		return "INTEGER"
	case 'k':
		return "UNSIGNED-BYTE"
	case 'c':
		return "CHARACTER"
	case 't':
		return "STRING"
	case 'v':
		return "ARRAY"
	case 'h':
		return "HASH-TABLE"
	case 'd':
		return "CONS"
	}
	return "FUNCTION"
}

// isOf reports whether an argument is of the type that a letter stands for.
func (w *World) isOf(letter byte, x heap.Word) bool {
	switch letter {
	case 'l':
		return w.isList(x)
	case 'p':
		return w.isProper(x)
	case 'q':
		return w.isProper(x) || w.isString(x) || w.isBits(x) || w.isVector(x)
	case 's':
		_, ok := w.numberOf(x)
		return ok
	case 'n':
		return w.isNumber(x)
	case 'r':
		return w.isNumber(x) && !w.isComplex(x)
	case 'a':
		return w.isRational(x)
	case 'i':
		return w.isInteger(x)
	case 'k':
		return w.isInteger(x) && !w.isNegative(x)
	case 'c':
		_, ok := x.Character()
		return ok
	case 't':
		return w.isString(x)
	case 'v':
		return w.isAnyArray(x)
	case 'h':
		return w.isTable(x)
	case 'd':
		return w.isCons(x)
	case 'g':
		_, isSymbol := w.numberOf(x)
		return isSymbol || w.isFunction(x)
	}
	return true
}

func (w *World) isProper(x heap.Word) bool {
	c := chain{world: w, rest: x}
	for range c.conses() {
	}
	return !c.isCircular && c.rest == heap.Nil
}
