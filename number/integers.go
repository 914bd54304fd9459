package number

import (
	"commonform/api"
	"commonform/integer"
)

// asInteger returns an integer, or ErrType.
func (z number) asInteger() (integer.Int, api.Errno) {
	x := z.parts[0]
	if z.complex || x.kind != exact || !x.ratio.Whole() {
		return integer.Int{}, api.ErrType
	}
	return x.ratio.Numerator(), api.OK
}

// decodeIntegers returns integers, or the first error of an element.
func decodeIntegers(l []api.Form) ([]integer.Int, api.Errno) {
	var all []integer.Int
	for _, x := range l {
		z, e := decode(x)
		if e != api.OK {
			return nil, e
		}
		n, e := z.asInteger()
		if e != api.OK {
			return nil, e
		}
		all = append(all, n)
	}
	return all, api.OK
}

// Gcd returns the greatest common divisor of integers.
func Gcd(l []api.Form) (api.Form, api.Errno) {
	all, e := decodeIntegers(l)
	if e != api.OK {
		return api.Form{}, e
	}
	var gcd integer.Int
	for _, n := range all {
		gcd = gcd.Gcd(n)
	}
	return ofScalar(ofInteger(gcd)).encode()
}

// Lcm returns the least common multiple of integers.
func Lcm(l []api.Form) (api.Form, api.Errno) {
	all, e := decodeIntegers(l)
	if e != api.OK {
		return api.Form{}, e
	}
	for _, n := range all {
		if n.Sign() == 0 { // however large a multiple the others have
			return ofScalar(scalar{}).encode()
		}
	}
	lcm := integer.New(1)
	for _, n := range all {
		part, _, _ := n.Abs().Divide(lcm.Gcd(n))
		lcm = lcm.Mul(part)
		if lcm.Length() > api.MaxBits {
			return api.Form{}, api.ErrLarge
		}
	}
	return ofScalar(ofInteger(lcm)).encode()
}

// Boole combines two integers bit by bit.
func Boole(op int, x, y api.Form) (api.Form, api.Errno) {
	a, b, e := decodeTwo(x, y)
	if e != api.OK {
		return api.Form{}, e
	}
	m, e := a.asInteger()
	if e != api.OK {
		return api.Form{}, e
	}
	n, e := b.asInteger()
	if e != api.OK {
		return api.Form{}, e
	}
	z, e := m.Boole(op, n)
	if e != api.OK {
		return api.Form{}, e
	}
	return ofScalar(ofInteger(z)).encode()
}

// Shift returns an integer times 2 to the power of n, rounded down.
func Shift(x api.Form, n int) (api.Form, api.Errno) {
	a, e := decode(x)
	if e != api.OK {
		return api.Form{}, e
	}
	m, e := a.asInteger()
	if e != api.OK {
		return api.Form{}, e
	}
	z, e := m.Shift(n)
	if e != api.OK {
		return api.Form{}, e
	}
	return ofScalar(ofInteger(z)).encode()
}
