package format

import (
	"strings"

	"commonform/api"
	"commonform/float"
	"commonform/integer"
	"commonform/number"
	"commonform/rational"
)

const (
	maxPlaces   = 100
	maxScale    = 100
	moneyPlaces = 2
	moneyDigits = 1
)

// takeReal takes a real number, and returns its value.
func (s *scene) takeReal() (api.Form, rational.Ratio) {
	x := s.args.take()
	exact, e := number.Rational(x)
	if e != api.OK {
		fail(api.ErrType)
	}
	value, _ := rational.Parse(exact.Text, 10)
	return x, value
}

// fixed performs ~F.
func (s *scene) fixed(d directive) int {
	p := s.parameters(d)
	width := p.numberOr(0, maxNumber, 0)
	places, placed := p.number(0, maxPlaces)
	scale := p.numberOr(-maxScale, maxScale, 0)
	over, limited := p.text()
	pad := p.textOr(" ")
	x, value := s.takeReal()
	value = scaled(value, scale)
	text := ""
	if placed {
		text, _ = float.Places(value, places)
	} else {
		text = shortest(value, x.Kind)
	}
	if d.at && !strings.HasPrefix(text, "-") {
		text = "+" + text
	}
	if width > 0 && len(text) > width {
		text = withoutZero(text)
		if limited && len(text) > width {
			text = strings.Repeat(over, width)
		}
	}
	return s.writePadded(text, width, pad)
}

// scaled returns a value times a power of ten.
func scaled(value rational.Ratio, scale int) rational.Ratio {
	power, _ := rational.Of(integer.New(10)).Power(scale)
	return value.Mul(power)
}

// shortest returns the digits of the float that is nearest to a value, in the format of a kind.
func shortest(value rational.Ratio, kind int) string {
	format := float.Single
	if kind == api.FormDouble {
		format = float.Double
	}
	bits, e := float.Nearest(format, value)
	if e != api.OK {
		fail(api.ErrRange)
	}
	digits, point, _ := float.Shortest(format, bits)
	text := pointed(digits, point)
	if value.Sign() < 0 && digits != "0" { // a float that became 0 is not below it
		text = "-" + text
	}
	return text
}

// pointed returns the number 0.d1 .. dn times a power of ten, with digits on both sides of its point.
func pointed(digits string, power int) string {
	switch {
	case power <= 0:
		return "0." + strings.Repeat("0", -power) + digits
	case power >= len(digits):
		return digits + strings.Repeat("0", power-len(digits)) + ".0"
	}
	return digits[:power] + "." + digits[power:]
}

// withoutZero leaves out a 0 that stands alone ahead of the point, if there is a digit behind it.
func withoutZero(text string) string {
	sign, rest := cutSign(text)
	if strings.HasPrefix(rest, "0.") && rest != "0." {
		return sign + rest[1:]
	}
	return text
}

// money performs ~$.
func (s *scene) money(d directive) int {
	p := s.parameters(d)
	places := p.numberOr(0, maxPlaces, moneyPlaces)
	least := p.numberOr(0, maxPlaces, moneyDigits)
	width := p.numberOr(0, maxNumber, 0)
	pad := p.textOr(" ")
	_, value := s.takeReal()
	text, _ := float.Places(value, places)
	sign, rest := cutSign(text)
	if sign == "" && d.at {
		sign = "+"
	}
	whole, _, _ := strings.Cut(rest, ".")
	rest = strings.Repeat("0", max(least-len(whole), 0)) + rest
	pads := strings.Repeat(pad, max(width-len(sign)-len(rest), 0))
	if d.colon {
		s.out.write(sign + pads + rest)
	} else {
		s.out.write(pads + sign + rest)
	}
	return goesOn
}
