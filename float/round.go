package float

import (
	"commonform/api"
	"commonform/integer"
)

// manyBits is more than the exponents of all floats differ. It keeps numbers small that are beyond them.
const manyBits = 5000

// roundScaled returns the float nearest to m 2^e, for an m not below 0, with a sign; that of 0 stays.
func roundScaled(f Format, negative bool, m integer.Int, e int) (uint64, api.Errno) {
	if m.Sign() == 0 {
		return zero(f, negative), api.OK
	}
	if e < 0 {
		return round(f, negative, m, power(-e))
	}
	return round(f, negative, m.Mul(power(e)), power(0))
}

// round returns the float nearest to n/d, for an n not below 0 and a d above 0, with a sign; 0 has none.
func round(f Format, negative bool, n, d integer.Int) (uint64, api.Errno) {
	size := n.Length() - d.Length() // n/d is above half of 2^size, and below twice 2^size
	switch {
	case n.Sign() == 0:
		return 0, api.OK
	case size > manyBits:
		return 0, api.ErrOver
	case size < -manyBits:
		return zero(f, negative), api.OK
	}
	exponent := max(size-precision(f), leastExponent[f])
	m, half := divideScaled(n, d, exponent)
	if m.Length() > precision(f) {
		exponent++
		m, half = divideScaled(n, d, exponent)
	}
	if half > 0 || half == 0 && m.Odd() {
		m = m.Add(whole(1))
	}
	if exponent > greatestExponent(f) {
		return 0, api.ErrOver
	}
	digits, _ := m.Int64()
	x := pack(f, parts{negative: negative, m: uint64(digits), e: exponent})
	if x&^signBit(f) >= infinity(f) {
		return 0, api.ErrOver
	}
	return x, api.OK
}

func zero(f Format, negative bool) uint64 {
	if negative {
		return signBit(f)
	}
	return 0
}

// divideScaled returns the quotient of n and d 2^e, rounded down, and how what is left compares with a half.
func divideScaled(n, d integer.Int, e int) (quotient integer.Int, half int) {
	if e < 0 {
		n = n.Mul(power(-e))
	} else {
		d = d.Mul(power(e))
	}
	quotient, rest, _ := n.Divide(d)
	return quotient, rest.Add(rest).Cmp(d)
}
