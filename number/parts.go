package number

import (
	"commonform/api"
	"commonform/float"
	"commonform/integer"
	"commonform/rational"
)

// Ways of rounding a quotient to an integer.
const (
	Floor = iota
	Ceiling
	Truncate
	Round
)

// Quotient returns x/y, rounded to an integer, and the remainder.
func Quotient(way int, x, y api.Form) (quotient, remainder api.Form, e api.Errno) {
	a, b, e := decodeReals(x, y)
	if e != api.OK {
		return api.Form{}, api.Form{}, e
	}
	q, rest, e := a.value().Quotient(way, b.value())
	if e != api.OK {
		return api.Form{}, api.Form{}, e
	}
	var c calculator
	c.contagion(a, b)
	left := c.toKind(ofRatio(rest), max(a.kind, b.kind))
	remainder, e = c.result(ofScalar(left))
	if e != api.OK {
		return api.Form{}, api.Form{}, e
	}
	quotient, e = ofScalar(ofInteger(q)).encode()
	if e != api.OK {
		return api.Form{}, api.Form{}, e
	}
	return quotient, remainder, api.OK
}

// Complex returns the number with a real and an imaginary part.
func Complex(re, im api.Form) (api.Form, api.Errno) {
	a, b, e := decodeReals(re, im)
	if e != api.OK {
		return api.Form{}, e
	}
	var c calculator
	z := c.complexOf(a, b)
	return c.result(z)
}

// Real returns the real part of x.
func Real(x api.Form) (api.Form, api.Errno) {
	z, e := decode(x)
	if e != api.OK {
		return api.Form{}, e
	}
	return ofScalar(z.parts[0]).encode()
}

// Imaginary returns the imaginary part of x.
func Imaginary(x api.Form) (api.Form, api.Errno) {
	z, e := decode(x)
	if e != api.OK {
		return api.Form{}, e
	}
	if !z.complex {
		return ofScalar(scalar{kind: z.parts[0].kind}).encode()
	}
	return ofScalar(z.parts[1]).encode()
}

// Conjugate returns the conjugate of x.
func Conjugate(x api.Form) (api.Form, api.Errno) {
	z, e := decode(x)
	if e != api.OK {
		return api.Form{}, e
	}
	z.parts[1] = z.parts[1].neg()
	return z.encode()
}

// Numerator returns the numerator of a rational x.
func Numerator(x api.Form) (api.Form, api.Errno) {
	return ofRational(x, rational.Ratio.Numerator)
}

// Denominator returns the denominator of a rational x.
func Denominator(x api.Form) (api.Form, api.Errno) {
	return ofRational(x, rational.Ratio.Denominator)
}

// ofRational returns a part of a rational number.
func ofRational(x api.Form, part func(rational.Ratio) integer.Int) (api.Form, api.Errno) {
	a, e := decodeReal(x)
	if e != api.OK {
		return api.Form{}, e
	}
	if a.kind != exact {
		return api.Form{}, api.ErrType
	}
	return ofScalar(ofInteger(part(a.ratio))).encode()
}

// Rational returns the exact value of a real x.
func Rational(x api.Form) (api.Form, api.Errno) {
	a, e := decodeReal(x)
	if e != api.OK {
		return api.Form{}, e
	}
	return ofScalar(ofRatio(a.value())).encode()
}

// Rationalize returns the simplest rational number that is read as the float x.
func Rationalize(x api.Form) (api.Form, api.Errno) {
	a, e := decodeReal(x)
	if e != api.OK {
		return api.Form{}, e
	}
	simplest := a.value()
	switch {
	case a.kind == exact || simplest.Sign() == 0:
	case simplest.Sign() < 0:
		simplest = a.neg().simplest().Neg()
	default:
		simplest = a.simplest()
	}
	return ofScalar(ofRatio(simplest)).encode()
}

// simplest returns the simplest fraction to which a float above 0 is nearest.
func (x scalar) simplest() rational.Ratio {
	low, high := x.halfWays()
	if significand, _, _, _ := float.Decode(x.format(), x.bits); significand.Odd() {
		// what lies half-way is nearest to the other float. The simplest fraction has no greater denominator than x; so it is farther away from both ends than this
		all := x.value().Denominator().Mul(low.Denominator()).Mul(high.Denominator())
		step, _ := rational.New(integer.New(1), all.Add(integer.New(1)))
		low, high = low.Add(step), high.Sub(step)
	}
	simplest, _ := rational.Simplest(low, high)
	return simplest
}

// halfWays returns the fractions in the middle between a float above 0 and the next ones. What is beyond the greatest float is as far away as if there were a further one.
func (x scalar) halfWays() (low, high rational.Ratio) {
	f := x.format()
	next := func(up bool) (rational.Ratio, api.Errno) {
		bits, e := float.Next(f, x.bits, up)
		if e != api.OK {
			return rational.Ratio{}, e
		}
		return float.Value(f, bits)
	}
	value := x.value()
	below, _ := next(false)
	above, e := next(true)
	if e != api.OK {
		above = value.Add(value).Sub(below)
	}
	half, _ := rational.New(integer.New(1), integer.New(2))
	return below.Add(value).Mul(half), above.Add(value).Mul(half)
}

// Float returns x as a float of a kind.
func Float(x api.Form, kind int) (api.Form, api.Errno) {
	z, e := decode(x)
	if e != api.OK {
		return api.Form{}, e
	}
	to := single
	switch kind {
	case api.FormSingle:
	case api.FormDouble:
		to = double
	default:
		return api.Form{}, api.ErrArg
	}
	var c calculator
	for i, part := range z.parts {
		z.parts[i] = c.toKind(part, to)
	}
	return c.result(z)
}
