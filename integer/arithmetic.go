package integer

import "commonform/api"

// Neg returns -x.
func (x Int) Neg() Int { return Make(!x.negative, x.limbs) }

// Abs returns the absolute value of x.
func (x Int) Abs() Int { return Make(false, x.limbs) }

// Add returns x + y.
func (x Int) Add(y Int) Int {
	if x.negative == y.negative {
		return own(x.negative, add(x.limbs, y.limbs))
	}
	if compare(x.limbs, y.limbs) < 0 {
		return own(y.negative, subtract(y.limbs, x.limbs))
	}
	return own(x.negative, subtract(x.limbs, y.limbs))
}

// Sub returns x - y.
func (x Int) Sub(y Int) Int {
	y.negative = !y.negative
	return x.Add(y)
}

// Mul returns the product of x and y.
func (x Int) Mul(y Int) Int {
	return own(x.negative != y.negative, multiply(x.limbs, y.limbs))
}

// Divide returns the quotient of x and y, truncated, and the remainder.
func (x Int) Divide(y Int) (quotient, remainder Int, e api.Errno) {
	if y.Sign() == 0 {
		return Int{}, Int{}, api.ErrZero
	}
	q, r := divide(x.limbs, y.limbs)
	return own(x.negative != y.negative, q), own(x.negative, r), api.OK
}

// Power returns x to the power of n.
func (x Int) Power(n int) (Int, api.Errno) {
	if n < 0 {
		return Int{}, api.ErrArg
	}
	if x.powerIsLarge(n) {
		return Int{}, api.ErrLarge
	}
	power, square := []uint32{1}, x.limbs
	for left := n; left > 0; left >>= 1 {
		if left&1 == 1 {
			power = multiply(power, square)
		}
		if left > 1 { // the last square is not needed, and may be far larger than the power
			square = multiply(square, square)
		}
	}
	z := own(x.negative && n&1 == 1, power)
	if z.Length() > api.MaxBits {
		return Int{}, api.ErrLarge
	}
	return z, api.OK
}

// powerIsLarge reports whether x to the power of n is too large to be calculated: with b binary digits it has more than (b - 1) n.
func (x Int) powerIsLarge(n int) bool {
	least := bitLength(x.limbs) - 1
	return least > 0 && n > api.MaxBits/least
}

// Root returns the square root of x, rounded down.
func (x Int) Root() (Int, api.Errno) {
	if x.negative {
		return Int{}, api.ErrArg
	}
	if len(x.limbs) == 0 {
		return Int{}, api.OK
	}
	// Newton's steps fall from above until they have reached the root
	root := shiftLeft([]uint32{1}, (bitLength(x.limbs)+1)/2)
	for {
		quotient, _ := divide(x.limbs, root)
		next := shiftRight(add(root, quotient), 1)
		if compare(next, root) >= 0 {
			return own(false, root), api.OK
		}
		root = next
	}
}
