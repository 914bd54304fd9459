package number

import (
	"iter"
	"math/bits"

	"commonform/api"
	"commonform/float"
	"commonform/integer"
	"commonform/rational"
)

// Add returns x + y.
func Add(x, y api.Form) (api.Form, api.Errno) {
	return combine(x, y, byParts((*calculator).add))
}

// Sub returns x - y.
func Sub(x, y api.Form) (api.Form, api.Errno) {
	return combine(x, y, byParts((*calculator).sub))
}

// Mul returns the product of x and y.
func Mul(x, y api.Form) (api.Form, api.Errno) {
	return combine(x, y, (*calculator).product)
}

// Div returns x/y.
func Div(x, y api.Form) (api.Form, api.Errno) {
	return combine(x, y, (*calculator).quotient)
}

// combine makes one number of two.
func combine(x, y api.Form, operate func(c *calculator, a, b number) number) (api.Form, api.Errno) {
	a, b, e := decodeTwo(x, y)
	if e != api.OK {
		return api.Form{}, e
	}
	var c calculator
	z := operate(&c, a, b)
	return c.result(z)
}

// Neg returns -x.
func Neg(x api.Form) (api.Form, api.Errno) {
	z, e := decode(x)
	if e != api.OK {
		return api.Form{}, e
	}
	return z.neg().encode()
}

// neg turns the sign of the integer 0, too, which a real number has as its second part.
func (z number) neg() number {
	z.parts = [2]scalar{z.parts[0].neg(), z.parts[1].neg()}
	return z
}

const greatestPower = 4096

// Power returns x to the power of n.
func Power(x api.Form, n int) (api.Form, api.Errno) {
	base, e := decode(x)
	if e != api.OK {
		return api.Form{}, e
	}
	if n < -greatestPower || n > greatestPower {
		return api.Form{}, api.ErrArg
	}
	one := ofScalar(ofInteger(integer.New(1)))
	if n == 0 {
		return one.encode()
	}
	if n < 0 {
		power, e := Power(x, -n)
		if e != api.OK {
			return api.Form{}, e
		}
		form, _ := one.encode()
		return Div(form, power)
	}
	var c calculator
	power := base
	for odd := range furtherDigits(n) {
		power = c.boundedProduct(power, power)
		if odd {
			power = c.boundedProduct(power, base)
		}
	}
	return c.result(power)
}

// furtherDigits comes to the binary digits of a number above 0, behind the first one.
func furtherDigits(n int) iter.Seq[bool] {
	return func(yield func(bool) bool) {
		for i := bits.Len(uint(n)) - 2; i >= 0; i-- {
			if !yield(n>>i&1 == 1) {
				return
			}
		}
	}
}

// boundedProduct returns a product whose integers are not too large. Behind an error there is none, since it would grow without a bound.
func (c *calculator) boundedProduct(x, y number) number {
	if c.e != api.OK {
		return number{}
	}
	z := c.product(x, y)
	for _, part := range z.parts {
		if part.ratio.Numerator().Length() > api.MaxBits || part.ratio.Denominator().Length() > api.MaxBits {
			c.note(api.ErrLarge)
		}
	}
	return z
}

// Root returns the square root of x.
func Root(x api.Form) (api.Form, api.Errno) {
	a, e := decodeReal(x)
	if e != api.OK {
		return api.Form{}, e
	}
	var c calculator
	if a.value().Sign() >= 0 {
		root := c.root(a)
		return c.result(ofScalar(root))
	}
	root := c.root(a.neg())
	z := c.complexOf(scalar{kind: root.kind}, root)
	return c.result(z)
}

// root returns the root of a number that is not below 0.
func (c *calculator) root(x scalar) scalar {
	if x.kind != exact {
		bits, e := float.Root(x.format(), x.bits)
		c.note(e)
		return scalar{kind: x.kind, bits: bits}
	}
	if root, e := x.ratio.Root(); e == api.OK {
		return ofRatio(root)
	}
	bits, e := float.Nearest(float.Single, between(x.ratio))
	c.note(e)
	return scalar{kind: single, bits: bits}
}

// between returns a fraction to which the same single float is nearest as to the root of x, where this is no fraction: the root lies between two numbers with more bits than halves of floats have, so that the one in the middle lies on the same side of these.
func between(x rational.Ratio) rational.Ratio {
	const enough = 64
	n, d := x.Numerator(), x.Denominator()
	shift := max(0, enough-(n.Length()-d.Length()))
	two := powerOfTwo(shift + shift&1)
	square, _, _ := n.Mul(two).Divide(d)
	root, _ := square.Root()
	root = root.Add(root).Add(integer.New(1))
	middle, _ := rational.New(root, powerOfTwo((shift+shift&1)/2+1))
	return middle
}

// powerOfTwo returns 2 to the power of n, which is not below 0, however large it is.
func powerOfTwo(n int) integer.Int {
	limbs := make([]uint32, n/32+1)
	limbs[n/32] = 1 << (n % 32)
	return integer.Make(false, limbs)
}

// Abs returns the absolute value of a real x.
func Abs(x api.Form) (api.Form, api.Errno) {
	a, e := decodeReal(x)
	if e != api.OK {
		return api.Form{}, e
	}
	if a.isNegative() {
		a = a.neg()
	}
	return ofScalar(a).encode()
}

// isNegative reports whether the value is below 0, or it is -0.
func (x scalar) isNegative() bool {
	if x.kind == exact {
		return x.ratio.Sign() < 0
	}
	_, _, sign, _ := float.Decode(x.format(), x.bits)
	return sign < 0
}

// Signum returns the sign of a real x as a number of its kind.
func Signum(x api.Form) (api.Form, api.Errno) {
	a, e := decodeReal(x)
	if e != api.OK {
		return api.Form{}, e
	}
	sign := a.value().Sign()
	if sign == 0 {
		return ofScalar(a).encode()
	}
	var c calculator
	z := c.toKind(ofInteger(integer.New(int64(sign))), a.kind)
	return c.result(ofScalar(z))
}
