package types

import (
	"commonform/api"
	"commonform/forms"
	"commonform/number"
)

// Kinds of objects, as far as names of types tell them apart.
const (
	kindNil = iota
	kindT
	kindKeyword
	kindSymbol // all other symbols
	kindFunction
	kindTable
	kindOther
	kindInteger
	kindRatio
	kindSingle
	kindDouble
	kindComplex
	kindChar
	kindString
	kindBits
	kindVector
	kindArray
	kindCons
	kindCount
)

// kinds is a set of kinds of objects.
type kinds uint32

const allKinds kinds = 1<<kindCount - 1

func kindsOf(l ...int) kinds {
	var set kinds
	for _, kind := range l {
		set |= 1 << kind
	}
	return set
}

func (k kinds) has(kind int) bool { return k>>kind&1 == 1 }

// Ops of specifiers.
const (
	opKinds   = iota // what is of some kinds, between bounds, with some dimensions
	opObjects        // some objects
	opCons           // conses whose parts are of two types
	opAnd
	opOr
	opNot
)

// bound is a bound of real numbers.
type bound struct {
	given, open bool
	value       api.Form
}

// free is the dimension, or the number of dimensions, that fits all.
const free = -1

// shape says which dimensions arrays have.
type shape struct {
	given bool
	rank  int   // free, or the number of dimensions
	dims  []int // with a rank: each one, or free
}

// specifier is a type.
type specifier struct {
	op        int
	kinds     kinds
	low, high bound
	shape     shape
	objects   []api.Form
	parts     []*specifier
}

// holds reports whether an object is of a type, by what it answers for the types that have no parts, and for those of conses.
func (s *specifier) holds(is func(part *specifier) bool) bool {
	switch s.op {
	case opNot:
		return !s.parts[0].holds(is)
	case opAnd:
		for _, part := range s.parts {
			if !part.holds(is) {
				return false
			}
		}
		return true
	case opOr:
		for _, part := range s.parts {
			if part.holds(is) {
				return true
			}
		}
		return false
	}
	return is(s)
}

// What is left of a type of which one knows all.
const (
	holdsNever  = "never"
	holdsAlways = "always"
)

// left returns what is left to be asked of a cons, as a text, by what is left of the types of conses.
func (s *specifier) left(of func(part *specifier) string) string {
	switch s.op {
	case opNot:
		switch text := s.parts[0].left(of); text {
		case holdsNever:
			return holdsAlways
		case holdsAlways:
			return holdsNever
		default:
			return "(not " + text + ")"
		}
	case opAnd:
		return s.leftOfAll("(and", holdsAlways, holdsNever, of)
	case opOr:
		return s.leftOfAll("(or", holdsNever, holdsAlways, of)
	case opCons:
		return of(s)
	}
	if s.kinds.has(kindCons) {
		return holdsAlways
	}
	return holdsNever
}

// leftOfAll returns what is left of several types: without those that change nothing, and decided by one that decides all.
func (s *specifier) leftOfAll(front, nothing, decides string, of func(part *specifier) string) string {
	all := ""
	for _, part := range s.parts {
		switch text := part.left(of); text {
		case nothing:
		case decides:
			return decides
		default:
			all += " " + text
		}
	}
	if all == "" {
		return nothing
	}
	return front + all + ")"
}

// isAll reports whether a type is seen to have all objects.
func (s *specifier) isAll() bool {
	return s.op == opKinds && s.kinds == allKinds && !s.low.given && !s.high.given && !s.shape.given
}

// simple yields to a function all types that have no parts, and those of conses, but not what stands in these.
func (s *specifier) simple(visit func(part *specifier)) {
	switch s.op {
	case opAnd, opOr, opNot:
		for _, part := range s.parts {
			part.simple(visit)
		}
	default:
		visit(s)
	}
}

// atom is an object that is no cons, with what types ask of it.
type atom struct {
	kind int
	form api.Form // but of arrays, which may be made when they are needed
	dims []int
}

// is reports whether an atom is of a type without parts.
func (a atom) is(s *specifier) bool {
	switch s.op {
	case opCons:
		return false
	case opObjects:
		return a.isOne(s.objects)
	}
	return s.kinds.has(a.kind) && a.between(s.low, s.high) && (!s.shape.given || s.shape.fits(a.dims))
}

func (a atom) isOne(l []api.Form) bool {
	for _, x := range l {
		if forms.Equal(x, a.form) {
			return true
		}
	}
	return false
}

// between reports whether the value of an atom lies between two bounds.
func (a atom) between(low, high bound) bool {
	if low.given {
		if sign, _ := number.Cmp(a.form, low.value); sign < 0 || sign == 0 && low.open {
			return false
		}
	}
	if high.given {
		if sign, _ := number.Cmp(a.form, high.value); sign > 0 || sign == 0 && high.open {
			return false
		}
	}
	return true
}

// fits reports whether dimensions are those of a shape.
func (s shape) fits(dims []int) bool {
	if s.rank == free {
		return true
	}
	if len(dims) != s.rank {
		return false
	}
	for i, d := range s.dims {
		if d != free && d != dims[i] {
			return false
		}
	}
	return true
}
