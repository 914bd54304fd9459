package float

import (
	"strings"

	"commonform/api"
	"commonform/integer"
)

const (
	manyTens = 1000000 // an exponent of ten that is beyond all floats, whatever digits stand ahead of it
	farTens  = 400     // a power of ten that is beyond all floats
)

// decimal is what a decimal text says: digits times 10^exponent.
type decimal struct {
	negative bool
	digits   string // without zeros in front
	exponent int
}

// Read returns the float with a decimal text.
func Read(f Format, s string) (uint64, api.Errno) {
	if e := checkFormats(f); e != api.OK {
		return 0, e
	}
	if len(s) > api.MaxDigits {
		return 0, api.ErrLarge
	}
	x, ok := parse(s)
	if !ok {
		return 0, api.ErrForm
	}
	point := x.exponent + len(x.digits)
	switch {
	case x.digits == "" || point < -farTens:
		return zero(f, x.negative), api.OK
	case point > farTens:
		return 0, api.ErrOver
	}
	n, _ := integer.Parse(x.digits, 10)
	if x.exponent < 0 {
		return round(f, x.negative, n, ten(-x.exponent))
	}
	return round(f, x.negative, n.Mul(ten(x.exponent)), ten(0))
}

// parse reads a decimal text.
func parse(s string) (decimal, bool) {
	var x decimal
	x.negative, s = cutSign(s)
	ahead, s := cutDigits(s)
	behind := ""
	if rest, ok := strings.CutPrefix(s, "."); ok {
		behind, s = cutDigits(rest)
	}
	if ahead == "" && behind == "" {
		return decimal{}, false
	}
	if s != "" {
		exponent, ok := parseExponent(s)
		if !ok {
			return decimal{}, false
		}
		x.exponent = exponent
	}
	x.digits = strings.TrimLeft(ahead+behind, "0")
	x.exponent -= len(behind)
	return x, true
}

// cutSign returns whether a text has a minus in front, and what is behind the sign.
func cutSign(s string) (bool, string) {
	if s != "" && (s[0] == '+' || s[0] == '-') {
		return s[0] == '-', s[1:]
	}
	return false, s
}

// cutDigits returns the digits in front of a text, and what is behind them.
func cutDigits(s string) (digits, rest string) {
	n := 0
	for n < len(s) && s[n] >= '0' && s[n] <= '9' {
		n++
	}
	return s[:n], s[n:]
}

// parseExponent reads a letter, a sign or none, and digits.
func parseExponent(s string) (int, bool) {
	if s[0] != 'e' && s[0] != 'E' {
		return 0, false
	}
	negative, s := cutSign(s[1:])
	digits, rest := cutDigits(s)
	if digits == "" || rest != "" {
		return 0, false
	}
	n := 0
	for _, digit := range digits {
		n = min(n*10+int(digit-'0'), manyTens)
	}
	if negative {
		n = -n
	}
	return n, true
}
