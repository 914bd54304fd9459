package integer

import (
	"cmp"
	"math/bits"
	"slices"
)

// The functions of this file are about the limbs of numbers that are not below 0. Their arguments have no zeros at the top, unless it is said otherwise, and stay as they are; their results have none, and are new.

// trim cuts off the zeros at the top.
func trim(a []uint32) []uint32 {
	n := len(a)
	for n > 0 && a[n-1] == 0 {
		n--
	}
	return a[:n]
}

func compare(a, b []uint32) int {
	if len(a) != len(b) {
		return cmp.Compare(len(a), len(b))
	}
	for i := len(a) - 1; i >= 0; i-- {
		if a[i] != b[i] {
			return cmp.Compare(a[i], b[i])
		}
	}
	return 0
}

// bitLength returns the number of binary digits.
func bitLength(a []uint32) int {
	if len(a) == 0 {
		return 0
	}
	top := len(a) - 1
	return limbBits*top + bits.Len32(a[top])
}

func add(a, b []uint32) []uint32 {
	if len(a) < len(b) {
		a, b = b, a
	}
	sum := make([]uint32, 0, len(a)+1)
	var carry uint64
	for i, limb := range a {
		carry += uint64(limb)
		if i < len(b) {
			carry += uint64(b[i])
		}
		sum = append(sum, uint32(carry))
		carry >>= limbBits
	}
	return trim(append(sum, uint32(carry)))
}

// subtract returns the difference of a and b, which is not above a.
func subtract(a, b []uint32) []uint32 {
	difference := make([]uint32, 0, len(a))
	var borrow uint64
	for i, limb := range a {
		part := uint64(limb) - borrow
		if i < len(b) {
			part -= uint64(b[i])
		}
		difference = append(difference, uint32(part))
		borrow = part >> 63
	}
	return trim(difference)
}

func multiply(a, b []uint32) []uint32 {
	product := make([]uint32, len(a)+len(b))
	for i, x := range a {
		if x == 0 {
			continue
		}
		var carry uint64
		row := product[i:]
		for k, y := range b {
			carry += uint64(x)*uint64(y) + uint64(row[k])
			row[k] = uint32(carry)
			carry >>= limbBits
		}
		row[len(b)] = uint32(carry)
	}
	return trim(product)
}

// scaleAndAdd returns a by factor plus addend.
func scaleAndAdd(a []uint32, factor, addend uint32) []uint32 {
	sum := make([]uint32, 0, len(a)+1)
	carry := uint64(addend)
	for _, limb := range a {
		carry += uint64(limb) * uint64(factor)
		sum = append(sum, uint32(carry))
		carry >>= limbBits
	}
	return trim(append(sum, uint32(carry)))
}

// shiftLeft returns a times 2 to the power of n, which is not below 0.
func shiftLeft(a []uint32, n int) []uint32 {
	whole, part := n/limbBits, n%limbBits
	shifted := make([]uint32, whole, whole+len(a)+1)
	var carry uint64
	for _, limb := range a {
		carry |= uint64(limb) << part
		shifted = append(shifted, uint32(carry))
		carry >>= limbBits
	}
	return trim(append(shifted, uint32(carry)))
}

// shiftRight returns a without its n lowest binary digits; n is not below 0.
func shiftRight(a []uint32, n int) []uint32 {
	whole, part := n/limbBits, n%limbBits
	if whole >= len(a) {
		return nil
	}
	shifted := slices.Clone(a[whole:])
	for i := range shifted {
		var above uint64
		if i+1 < len(shifted) {
			above = uint64(shifted[i+1])
		}
		shifted[i] = uint32((above<<limbBits | uint64(shifted[i])) >> part)
	}
	return trim(shifted)
}

// divideSmall returns the quotient of a and d, which is not 0, and the remainder.
func divideSmall(a []uint32, d uint32) ([]uint32, uint32) {
	quotient := make([]uint32, len(a))
	var rest uint64
	for i := len(a) - 1; i >= 0; i-- {
		rest = rest<<limbBits | uint64(a[i])
		quotient[i] = uint32(rest / uint64(d))
		rest %= uint64(d)
	}
	return trim(quotient), uint32(rest)
}

// divide returns the quotient of a and b, which is not 0, and the remainder.
func divide(a, b []uint32) (quotient, remainder []uint32) {
	if compare(a, b) < 0 {
		return nil, slices.Clone(a)
	}
	if len(b) == 1 {
		q, r := divideSmall(a, b[0])
		return q, trim([]uint32{r})
	}
	return divideLong(a, b)
}

// divideLong divides by hand, limb by limb (Knuth's algorithm D): with the top bit of b set a digit that is guessed from the first limbs is at most 2 too great.
func divideLong(a, b []uint32) (quotient, remainder []uint32) {
	up := bits.LeadingZeros32(b[len(b)-1])
	divisor := shiftLeft(b, up)
	rest := shiftLeft(a, up)
	rest = append(rest, make([]uint32, len(a)+1-len(rest))...)
	n := len(divisor)
	quotient = make([]uint32, len(rest)-n)
	for i := len(quotient) - 1; i >= 0; i-- {
		digit := guess(rest[i:i+n+1], divisor)
		if takeProduct(rest[i:i+n+1], divisor, digit) {
			digit--
			putBack(rest[i:i+n+1], divisor)
		}
		quotient[i] = digit
	}
	return trim(quotient), shiftRight(trim(rest), up)
}

// guess returns the digit of the quotient of part, which has one limb more than divisor, or one more than this.
func guess(part, divisor []uint32) uint32 {
	n := len(divisor)
	top := uint64(part[n])<<limbBits | uint64(part[n-1])
	first, second := uint64(divisor[n-1]), uint64(divisor[n-2])
	digit, rest := top/first, top%first
	for digit > limbMask || digit*second > rest<<limbBits|uint64(part[n-2]) {
		digit--
		rest += first
		if rest > limbMask {
			break
		}
	}
	return uint32(digit)
}

// takeProduct takes digit times divisor from part, and reports whether this was too much.
func takeProduct(part, divisor []uint32, digit uint32) bool {
	var carry, borrow uint64
	for i, limb := range divisor {
		carry += uint64(limb) * uint64(digit)
		left := uint64(part[i]) - uint64(uint32(carry)) - borrow
		part[i] = uint32(left)
		carry >>= limbBits
		borrow = left >> 63
	}
	n := len(divisor)
	left := uint64(part[n]) - carry - borrow
	part[n] = uint32(left)
	return left>>63 == 1
}

// putBack adds the divisor to part again.
func putBack(part, divisor []uint32) {
	var carry uint64
	for i, limb := range divisor {
		carry += uint64(part[i]) + uint64(limb)
		part[i] = uint32(carry)
		carry >>= limbBits
	}
	part[len(divisor)] += uint32(carry)
}
