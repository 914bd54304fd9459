package float

import (
	"iter"

	"commonform/api"
	"commonform/integer"
)

// decodeTwo returns the parts of two floats of a format, or the error of the first one that has one.
func decodeTwo(f Format, x, y uint64) (a, b parts, e api.Errno) {
	a, e = decode(f, x)
	if e != api.OK {
		return parts{}, parts{}, e
	}
	b, e = decode(f, y)
	if e != api.OK {
		return parts{}, parts{}, e
	}
	return a, b, api.OK
}

// signed returns the significand with the sign of the float, in units of 2^e, for an e that is not above the exponent.
func (p parts) signed(e int) integer.Int {
	m := whole(p.m).Mul(power(p.e - e))
	if p.negative {
		return m.Neg()
	}
	return m
}

// neighbours comes to the floats next to a right float, with whether they are above it: not to those beyond the greatest ones.
func neighbours(f Format, x uint64) iter.Seq2[bool, uint64] {
	return func(yield func(bool, uint64) bool) {
		sign := x & signBit(f)
		size := x &^ sign
		if size == 0 {
			if yield(false, signBit(f)|1) {
				yield(true, 1)
			}
			return
		}
		toZero := sign | (size - 1)
		if size == 1 {
			toZero = 0
		}
		if yield(sign != 0, toZero) && size+1 < infinity(f) {
			yield(sign == 0, sign|(size+1))
		}
	}
}

// Next returns the next greater, or the next less float.
func Next(f Format, x uint64, up bool) (uint64, api.Errno) {
	if e := check(f, x); e != api.OK {
		return 0, e
	}
	for above, y := range neighbours(f, x) {
		if above == up {
			return y, api.OK
		}
	}
	return 0, api.ErrOver
}

// Neg returns a float with the opposite sign.
func Neg(f Format, x uint64) (uint64, api.Errno) {
	if e := check(f, x); e != api.OK {
		return 0, e
	}
	return x ^ signBit(f), api.OK
}

// Add returns the sum of two floats.
func Add(f Format, x, y uint64) (uint64, api.Errno) {
	a, b, e := decodeTwo(f, x, y)
	if e != api.OK {
		return 0, e
	}
	least := min(a.e, b.e)
	sum := a.signed(least).Add(b.signed(least))
	if sum.Sign() == 0 {
		bothNegative := a.m == 0 && a.negative && b.negative
		return zero(f, bothNegative), api.OK
	}
	return roundScaled(f, sum.Sign() < 0, sum.Abs(), least)
}

// Sub returns the difference of two floats.
func Sub(f Format, x, y uint64) (uint64, api.Errno) {
	if _, _, e := decodeTwo(f, x, y); e != api.OK {
		return 0, e
	}
	return Add(f, x, y^signBit(f))
}

// Mul returns the product of two floats.
func Mul(f Format, x, y uint64) (uint64, api.Errno) {
	a, b, e := decodeTwo(f, x, y)
	if e != api.OK {
		return 0, e
	}
	return roundScaled(f, a.negative != b.negative, whole(a.m).Mul(whole(b.m)), a.e+b.e)
}

// Div returns the quotient of two floats.
func Div(f Format, x, y uint64) (uint64, api.Errno) {
	a, b, e := decodeTwo(f, x, y)
	if e != api.OK {
		return 0, e
	}
	if b.m == 0 {
		return 0, api.ErrZero
	}
	negative := a.negative != b.negative
	if a.m == 0 {
		return zero(f, negative), api.OK
	}
	n, d := whole(a.m), whole(b.m)
	if a.e < b.e {
		d = d.Mul(power(b.e - a.e))
	} else {
		n = n.Mul(power(a.e - b.e))
	}
	return round(f, negative, n, d)
}

// Root returns the square root of a float.
func Root(f Format, x uint64) (uint64, api.Errno) {
	p, e := decode(f, x)
	switch {
	case e != api.OK:
		return 0, e
	case p.m == 0:
		return x, api.OK
	case p.negative:
		return 0, api.ErrArg
	}
	// the root gets more bits than the precision. No root lies half-way between two floats, so a further bit may stand for all that may be behind it
	shift := 2*precision(f) + 4 + p.e&1
	root, _ := whole(p.m).Mul(power(shift)).Root()
	root = root.Add(root).Add(whole(1))
	return roundScaled(f, false, root, (p.e-shift)/2-1)
}
