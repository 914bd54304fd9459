package integer

import (
	"math/bits"

	"commonform/api"
)

// complement returns -1 - x, the number with the opposite bits.
func (x Int) complement() Int { return New(-1).Sub(x) }

// Shift returns x times 2 to the power of n, rounded down.
func (x Int) Shift(n int) (Int, api.Errno) {
	switch {
	case n <= 0:
		return x.shiftDown(n), api.OK
	case x.Sign() == 0:
		return Int{}, api.OK
	case x.Length() > api.MaxBits-n:
		return Int{}, api.ErrLarge
	}
	return own(x.negative, shiftLeft(x.limbs, n)), api.OK
}

// shiftDown shifts for an n that is not above 0. A number below 0 is rounded down when its complement is.
func (x Int) shiftDown(n int) Int {
	n = -max(n, -bitLength(x.limbs)) // there is nothing left behind that, and the least int has no opposite
	if x.negative {
		return own(false, shiftRight(x.complement().limbs, n)).complement()
	}
	return own(false, shiftRight(x.limbs, n))
}

// words returns the n lowest limbs of the two's complement of x.
func (x Int) words(n int) []uint32 {
	words := make([]uint32, n)
	if x.negative {
		copy(words, x.complement().limbs)
		for i := range words {
			words[i] = ^words[i]
		}
		return words
	}
	copy(words, x.limbs)
	return words
}

// signed returns the integer with a two's complement, whose last bit is its sign.
func signed(words []uint32) Int {
	if words[len(words)-1]>>(limbBits-1) == 0 {
		return own(false, words)
	}
	for i := range words {
		words[i] = ^words[i]
	}
	return own(false, words).complement()
}

// operation returns one of the sixteen operations of two bits, for limbs.
func operation(op int) func(a, b uint32) uint32 {
	var table [4]uint32 // for each pair of bits a limb of the bit that comes of it
	for i := range table {
		if op>>i&1 == 1 {
			table[i] = limbMask
		}
	}
	return func(a, b uint32) uint32 {
		return table[0]&^a&^b | table[1]&^a&b | table[2]&a&^b | table[3]&a&b
	}
}

// Boole combines x and y bit by bit.
func (x Int) Boole(op int, y Int) (Int, api.Errno) {
	if op < 0 || op > 15 {
		return Int{}, api.ErrArg
	}
	return x.combine(operation(op), y), api.OK
}

// combine takes one limb more than both have, for the sign.
func (x Int) combine(operate func(a, b uint32) uint32, y Int) Int {
	n := max(len(x.limbs), len(y.limbs)) + 1
	words, others := x.words(n), y.words(n)
	for i := range words {
		words[i] = operate(words[i], others[i])
	}
	return signed(words)
}

// Length returns the number of bits of x in two's complement, without the sign.
func (x Int) Length() int {
	if x.negative {
		return bitLength(x.complement().limbs)
	}
	return bitLength(x.limbs)
}

// Count returns the number of bits of x that differ from its sign.
func (x Int) Count() int {
	if x.negative {
		x = x.complement()
	}
	n := 0
	for _, limb := range x.limbs {
		n += bits.OnesCount32(limb)
	}
	return n
}

// Bit reports whether a bit of x is set.
func (x Int) Bit(i int) bool {
	if i < 0 {
		return false
	}
	if x.negative {
		return !x.complement().Bit(i)
	}
	whole := i / limbBits
	return whole < len(x.limbs) && x.limbs[whole]>>(i%limbBits)&1 == 1
}

// checkField returns the error of a size and a position.
func checkField(size, position int) api.Errno {
	if size < 0 || size > api.MaxBits || position < 0 || position > api.MaxBits {
		return api.ErrArg
	}
	return api.OK
}

// ones returns the number whose bits from position to position + size - 1 are set.
func ones(size, position int) Int {
	mask := subtract(shiftLeft([]uint32{1}, size), []uint32{1})
	return own(false, shiftLeft(mask, position))
}

// The operations of fields, as Boole numbers them.
const (
	opAndNot = 4
	opAnd    = 8
	opOr     = 14
)

// Field returns some bits of x as a number.
func (x Int) Field(size, position int) (Int, api.Errno) {
	if e := checkField(size, position); e != api.OK {
		return Int{}, e
	}
	return x.shiftDown(-position).combine(operation(opAnd), ones(size, 0)), api.OK
}

// Deposit returns x with some bits replaced.
func (x Int) Deposit(part Int, size, position int) (Int, api.Errno) {
	if e := checkField(size, position); e != api.OK {
		return Int{}, e
	}
	field := part.combine(operation(opAnd), ones(size, 0))
	placed := own(false, shiftLeft(field.limbs, position))
	cleared := x.combine(operation(opAndNot), ones(size, position))
	return cleared.combine(operation(opOr), placed), api.OK
}
