package float

import (
	"strconv"
	"strings"

	"commonform/api"
	"commonform/integer"
	"commonform/rational"
)

// ten returns 10 to the power of n, which is not below 0.
func ten(n int) integer.Int {
	const most = 10000 // what one power may be without being too large
	power := integer.New(1)
	for ; n > 0; n -= most {
		part, _ := integer.New(10).Power(min(n, most))
		power = power.Mul(part)
	}
	return power
}

// Shortest returns the shortest decimal digits from which a float is read back, and the place of the point.
func Shortest(f Format, x uint64) (digits string, point int, e api.Errno) {
	p, e := decode(f, x)
	if e != api.OK {
		return "", 0, e
	}
	if p.m == 0 {
		return "0", 0, api.OK
	}
	digits, point = searchDigits(spanOf(f, p))
	return digits, point, api.OK
}

// span is a float above 0, value/unit, with the distances to where other floats begin, in the same unit. These ends belong to it if closed is set.
type span struct {
	value, below, above, unit integer.Int
	closed                    bool
}

// spanOf returns the span of a float without its sign. Its unit is a quarter of the last place, since the float below may have half as large a place.
func spanOf(f Format, p parts) span {
	p.negative = false
	// what is beyond the greatest float is as far away as if there were a further one
	below, above := int64(2), int64(2)
	for up, x := range neighbours(f, pack(f, p)) {
		next := unpack(f, x)
		distance := int64(next.m<<(next.e-p.e+1)) - int64(p.m<<1)
		if up {
			above = distance
		} else {
			below = -distance
		}
	}
	s := span{value: whole(p.m << 2), below: integer.New(below), above: integer.New(above), unit: power(0), closed: p.m&1 == 0}
	if p.e < 2 {
		s.unit = power(2 - p.e)
		return s
	}
	scale := power(p.e - 2)
	s.value, s.below, s.above = s.value.Mul(scale), s.below.Mul(scale), s.above.Mul(scale)
	return s
}

// scaled returns the span of the float over 10^point.
func (s span) scaled(point int) span {
	if point >= 0 {
		s.unit = s.unit.Mul(ten(point))
		return s
	}
	by := ten(-point)
	s.value, s.below, s.above = s.value.Mul(by), s.below.Mul(by), s.above.Mul(by)
	return s
}

// normalized returns the span of the float over 10^point, for the point with which that is from 1/10 to below 1.
func (s span) normalized() (scaled span, point int) {
	bits := s.value.Length() - s.unit.Length()
	point = bits*30103/100000 - 2 // by the logarithm of 2: a guess that is not too great
	for {
		scaled = s.scaled(point)
		if scaled.value.Cmp(scaled.unit) < 0 {
			return scaled, point
		}
		point++
	}
}

// searchDigits takes one digit after the other, until the digits so far, or the next greater ones, are read as the float.
func searchDigits(s span) (digits string, point int) {
	s, point = s.normalized()
	base, so, rest := integer.New(10), integer.New(0), s.value
	reads := func(distance, end integer.Int) bool {
		c := distance.Cmp(end)
		return c < 0 || c == 0 && s.closed
	}
	count := 0
search:
	for {
		count++
		digit, left, _ := rest.Mul(base).Divide(s.unit)
		so, rest = so.Mul(base).Add(digit), left
		s.below, s.above = s.below.Mul(base), s.above.Mul(base)
		gap := s.unit.Sub(rest)
		half := rest.Cmp(gap)
		down, up := reads(rest, s.below), reads(gap, s.above)
		switch {
		case up && (!down || half > 0 || half == 0 && so.Odd()):
			so = so.Add(integer.New(1))
			break search
		case down:
			break search
		}
	}
	text, _ := so.Text(10)
	return strings.TrimRight(text, "0"), point + len(text) - count // 9 may have become 10
}

// Places returns a fraction with so many decimal places.
func Places(x rational.Ratio, n int) (string, api.Errno) {
	if n < 0 || n > 400 {
		return "", api.ErrArg
	}
	scaled := x.Mul(rational.Of(ten(n)))
	nearest, _, _ := scaled.Quotient(rational.Round, rational.Of(integer.New(1)))
	text, _ := nearest.Abs().Text(10)
	text = zeros(n+1-len(text)) + text
	ahead := len(text) - n
	text = text[:ahead] + "." + text[ahead:]
	if nearest.Sign() < 0 {
		text = "-" + text
	}
	return text, api.OK
}

// zeros returns n zeros, and none for an n below 0.
func zeros(n int) string { return strings.Repeat("0", max(n, 0)) }

// Print returns the text of a float.
func Print(f Format, x uint64, usual Format) (string, api.Errno) {
	if e := checkFormats(f, usual); e != api.OK {
		return "", e
	}
	digits, point, e := Shortest(f, x)
	if e != api.OK {
		return "", e
	}
	sign := ""
	if x&signBit(f) != 0 {
		sign = "-"
	}
	letter := "e"
	if f != usual {
		letter = [formats]string{"f", "d"}[f]
	}
	if point > -3 && point < 8 { // from 10^-3 to below 10^7; 0 has the point 0
		text := sign + plain(digits, point)
		if f != usual {
			text += letter + "0"
		}
		return text, api.OK
	}
	behind := digits[1:]
	if behind == "" {
		behind = "0"
	}
	return sign + digits[:1] + "." + behind + letter + strconv.Itoa(point-1), api.OK
}

// plain returns digits with a point that has at least one of them on each side.
func plain(digits string, point int) string {
	switch {
	case point <= 0:
		return "0." + zeros(-point) + digits
	case point >= len(digits):
		return digits + zeros(point-len(digits)) + ".0"
	}
	return digits[:point] + "." + digits[point:]
}
