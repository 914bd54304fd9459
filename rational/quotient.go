package rational

import (
	"commonform/api"
	"commonform/integer"
)

// Ways of rounding a quotient to an integer.
const (
	Floor = iota
	Ceiling
	Truncate
	Round
	ways // their number
)

// floor returns the greatest integer that is not above n/d, for a d above 0, and n less d times it.
func floor(n, d integer.Int) (quotient, rest integer.Int) {
	quotient, rest, _ = n.Divide(d)
	if rest.Sign() < 0 {
		return quotient.Sub(one()), rest.Add(d)
	}
	return quotient, rest
}

// Quotient returns x/y, rounded to an integer, and the remainder.
func (x Ratio) Quotient(way int, y Ratio) (integer.Int, Ratio, api.Errno) {
	if way < 0 || way >= ways {
		return integer.Int{}, Ratio{}, api.ErrArg
	}
	if y.Sign() == 0 {
		return integer.Int{}, Ratio{}, api.ErrZero
	}
	n, d := x.n.Mul(y.Denominator()), x.Denominator().Mul(y.n)
	if d.Sign() < 0 {
		n, d = n.Neg(), d.Neg()
	}
	quotient, rest := floor(n, d)
	if goesUp(way, quotient, rest, d) {
		quotient = quotient.Add(one())
	}
	return quotient, x.Sub(Of(quotient).Mul(y)), api.OK
}

// goesUp reports whether a quotient that was rounded down is to be 1 more, in one of the ways, where the rest is rest/d.
func goesUp(way int, quotient, rest, d integer.Int) bool {
	rules := [ways]func() bool{
		Floor:    func() bool { return false },
		Ceiling:  func() bool { return rest.Sign() != 0 },
		Truncate: func() bool { return rest.Sign() != 0 && quotient.Sign() < 0 },
		Round: func() bool {
			half := rest.Add(rest).Cmp(d)
			return half > 0 || half == 0 && quotient.Odd()
		},
	}
	return rules[way]()
}
