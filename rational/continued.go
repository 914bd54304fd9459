package rational

import (
	"iter"
	"slices"

	"commonform/api"
	"commonform/integer"
)

// terms comes to the elements of the continued fraction of n/d, for a d above 0.
func terms(n, d integer.Int) iter.Seq[integer.Int] {
	return func(yield func(integer.Int) bool) {
		for d.Sign() != 0 {
			term, rest := floor(n, d)
			if !yield(term) {
				return
			}
			n, d = d, rest
		}
	}
}

// Expansion returns the continued fraction of x.
func (x Ratio) Expansion() []integer.Int {
	var l []integer.Int
	for term := range terms(x.n, x.Denominator()) {
		l = append(l, term)
	}
	return l
}

// Contract returns the fraction with a continued fraction.
func Contract(l []integer.Int) (Ratio, api.Errno) {
	if len(l) == 0 {
		return Ratio{}, api.ErrNone
	}
	last := len(l) - 1
	n, d := l[last], one()
	for _, term := range slices.Backward(l[:last]) {
		if n.Sign() == 0 {
			return Ratio{}, api.ErrZero
		}
		n, d = term.Mul(n).Add(d), n
	}
	return New(n, d)
}

// Simplest returns the simplest fraction between two others.
func Simplest(low, high Ratio) (Ratio, api.Errno) {
	switch {
	case low.Cmp(high) > 0:
		return Ratio{}, api.ErrOrder
	case low.Sign() > 0:
		return simplest(low, high), api.OK
	case high.Sign() < 0:
		return simplest(high.Neg(), low.Neg()).Neg(), api.OK
	}
	return Ratio{}, api.OK
}

// simplest is Simplest above 0.
func simplest(low, high Ratio) Ratio {
	x, _ := Contract(slices.Collect(commonTerms(low, high)))
	return x
}

// commonTerms comes to the elements of the continued fraction of the simplest fraction from low to high: those that all fractions in between begin with, and then the least that leads into the range.
func commonTerms(low, high Ratio) iter.Seq[integer.Int] {
	return func(yield func(integer.Int) bool) {
		a, b := low.n, low.Denominator()
		c, d := high.n, high.Denominator()
		for {
			least, rest := floor(a, b)
			most, left := floor(c, d)
			if rest.Sign() == 0 {
				yield(least)
				return
			}
			if least.Cmp(most) < 0 {
				yield(least.Add(one()))
				return
			}
			if !yield(least) {
				return
			}
			// 1/(x - least) falls with x, so both ends change their places
			a, b, c, d = d, left, b, rest
		}
	}
}
