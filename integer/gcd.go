package integer

import "math/bits"

// Gcd returns the greatest common divisor of x and y.
func (x Int) Gcd(y Int) Int {
	a, b := x.limbs, y.limbs
	if compare(a, b) < 0 {
		a, b = b, a
	}
	for len(b) > 1 {
		s := foresee(a, b)
		if s.v0 == 0 {
			_, rest := divide(a, b)
			a, b = b, rest
			continue
		}
		a, b = s.combine(a, b)
	}
	if len(b) == 0 {
		return Make(false, a)
	}
	_, rest := divideSmall(a, b[0])
	return New(int64(smallGcd(b[0], rest)))
}

func smallGcd(a, b uint32) uint32 {
	for b != 0 {
		a, b = b, a%b
	}
	return a
}

// steps are several of Euclid's steps in one: they make u0 a - v0 b and v1 b - u1 a of a and b, or both with the other sign if odd is set.
type steps struct {
	u0, u1, v0, v1 uint32
	odd            bool
}

// foresee finds the steps that the first 64 bits of a and b tell for sure (Lehmer's method, with Collins' condition when to stop); without any v0 is 0. Both have two limbs or more, and a is not below b.
func foresee(a, b []uint32) steps {
	up := bits.LeadingZeros32(a[len(a)-1])
	x, y := first(a, len(a), up), first(b, len(a), up)
	var u0, u1, u2 uint64 = 0, 1, 0
	var v0, v1, v2 uint64 = 0, 0, 1
	odd := true
	for y >= v2 && x-y >= v1+v2 {
		q := x / y
		x, y = y, x%y
		u0, u1, u2 = u1, u2, u1+q*u2
		v0, v1, v2 = v1, v2, v1+q*v2
		odd = !odd
	}
	return steps{u0: uint32(u0), u1: uint32(u1), v0: uint32(v0), v1: uint32(v1), odd: odd}
}

// first returns the upper 64 of the bits that n limbs have, behind the first up of them.
func first(a []uint32, n, up int) uint64 {
	limb := func(i int) uint64 {
		if i < 0 || i >= len(a) {
			return 0
		}
		return uint64(a[i])
	}
	return limb(n-1)<<(limbBits+up) | limb(n-2)<<up | limb(n-3)>>(limbBits-up)
}

// combine makes the two numbers that these steps lead to.
func (s steps) combine(a, b []uint32) (c, d []uint32) {
	if s.odd {
		return mix(b, s.v0, a, s.u0), mix(a, s.u1, b, s.v1)
	}
	return mix(a, s.u0, b, s.v0), mix(b, s.v1, a, s.u1)
}

// mix returns u a - v b, which is not below 0 and not above the greater one of a and b.
func mix(a []uint32, u uint32, b []uint32, v uint32) []uint32 {
	l := make([]uint32, max(len(a), len(b)))
	var plus, minus, borrow uint64
	for i := range l {
		if i < len(a) {
			plus += uint64(a[i]) * uint64(u)
		}
		if i < len(b) {
			minus += uint64(b[i]) * uint64(v)
		}
		part := uint64(uint32(plus)) - uint64(uint32(minus)) - borrow
		l[i] = uint32(part)
		plus >>= limbBits
		minus >>= limbBits
		borrow = part >> 63
	}
	return trim(l)
}
