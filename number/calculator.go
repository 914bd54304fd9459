package number

import (
	"commonform/api"
	"commonform/float"
	"commonform/rational"
)

// calculator makes one operation after the other, and keeps the first error. Behind it results mean nothing.
type calculator struct{ e api.Errno }

func (c *calculator) note(e api.Errno) {
	if c.e == api.OK {
		c.e = e
	}
}

// operation is one of two real numbers of the same kind.
type operation func(x, y scalar) (scalar, api.Errno)

type ratioOperation func(x, y rational.Ratio) (rational.Ratio, api.Errno)

type floatOperation func(f float.Format, x, y uint64) (uint64, api.Errno)

// table has an operation for each kind.
type table [kinds]operation

func tableOf(ofRatios ratioOperation, ofFloats floatOperation) table {
	inKind := func(kind int) operation {
		return func(x, y scalar) (scalar, api.Errno) {
			bits, e := ofFloats(formatOf(kind), x.bits, y.bits)
			return scalar{kind: kind, bits: bits}, e
		}
	}
	exactly := func(x, y scalar) (scalar, api.Errno) {
		ratio, e := ofRatios(x.ratio, y.ratio)
		return ofRatio(ratio), e
	}
	return table{exact: exactly, single: inKind(single), double: inKind(double)}
}

// always makes an operation of one without errors.
func always(operate func(x, y rational.Ratio) rational.Ratio) ratioOperation {
	return func(x, y rational.Ratio) (rational.Ratio, api.Errno) { return operate(x, y), api.OK }
}

// toKind returns x as a number of a kind that is not ahead of its own, or as a float of any kind.
func (c *calculator) toKind(x scalar, kind int) scalar {
	switch {
	case x.kind == kind:
		return x
	case x.kind == exact:
		bits, e := float.Nearest(formatOf(kind), x.ratio)
		c.note(e)
		return scalar{kind: kind, bits: bits}
	}
	bits, e := float.Convert(x.format(), x.bits, formatOf(kind))
	c.note(e)
	return scalar{kind: kind, bits: bits}
}

// contagion returns both numbers as ones of their common kind.
func (c *calculator) contagion(x, y scalar) (scalar, scalar) {
	kind := max(x.kind, y.kind)
	x = c.toKind(x, kind)
	return x, c.toKind(y, kind)
}

func (c *calculator) operate(t table, x, y scalar) scalar {
	x, y = c.contagion(x, y)
	if c.e != api.OK {
		return scalar{}
	}
	z, e := t[x.kind](x, y)
	c.note(e)
	return z
}

func (c *calculator) add(x, y scalar) scalar {
	return c.operate(tableOf(always(rational.Ratio.Add), float.Add), x, y)
}

func (c *calculator) sub(x, y scalar) scalar {
	return c.operate(tableOf(always(rational.Ratio.Sub), float.Sub), x, y)
}

func (c *calculator) mul(x, y scalar) scalar {
	return c.operate(tableOf(always(rational.Ratio.Mul), float.Mul), x, y)
}

func (c *calculator) div(x, y scalar) scalar {
	return c.operate(tableOf(rational.Ratio.Div, float.Div), x, y)
}

// neg returns -x.
func (x scalar) neg() scalar {
	if x.kind == exact {
		return ofRatio(x.ratio.Neg())
	}
	x.bits, _ = float.Neg(x.format(), x.bits)
	return x
}

// complexOf returns the complex number with two parts.
func (c *calculator) complexOf(re, im scalar) number {
	if re.kind == exact && im.kind == exact && im.ratio.Sign() == 0 {
		return ofScalar(re)
	}
	re, im = c.contagion(re, im)
	return number{complex: true, parts: [2]scalar{re, im}}
}

// byParts makes an operation of numbers of one of their real parts, and of their imaginary parts.
func byParts(operate func(c *calculator, a, b scalar) scalar) func(c *calculator, x, y number) number {
	return func(c *calculator, x, y number) number {
		re := operate(c, x.parts[0], y.parts[0])
		if !x.complex && !y.complex {
			return ofScalar(re)
		}
		im := operate(c, x.parts[1], y.parts[1])
		return c.complexOf(re, im)
	}
}

// product returns the product of two numbers.
func (c *calculator) product(x, y number) number {
	a, b := x.parts[0], x.parts[1]
	if !x.complex && !y.complex {
		return ofScalar(c.mul(a, y.parts[0]))
	}
	re, im := y.parts[0], y.parts[1]
	re, im = c.sub(c.mul(a, re), c.mul(b, im)), c.add(c.mul(a, im), c.mul(b, re))
	return c.complexOf(re, im)
}

// quotient returns the quotient of two numbers.
func (c *calculator) quotient(x, y number) number {
	a, b := x.parts[0], x.parts[1]
	if !x.complex && !y.complex {
		return ofScalar(c.div(a, y.parts[0]))
	}
	re, im := y.parts[0], y.parts[1]
	norm := c.add(c.mul(re, re), c.mul(im, im))
	first := c.div(c.add(c.mul(a, re), c.mul(b, im)), norm)
	second := c.div(c.sub(c.mul(b, re), c.mul(a, im)), norm)
	return c.complexOf(first, second)
}

// result returns the form of a number, or the first error on the way to it.
func (c *calculator) result(z number) (api.Form, api.Errno) {
	if c.e != api.OK {
		return api.Form{}, c.e
	}
	return z.encode()
}
