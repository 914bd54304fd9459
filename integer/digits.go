package integer

import (
	"slices"

	"commonform/api"
)

const digits = "0123456789ABCDEFGHIJKLMNOPQRSTUVWXYZ"

// The radixes.
const (
	leastRadix    = 2
	greatestRadix = 36
)

// group returns how many digits of a radix go into a limb, and the power of the radix with this exponent.
func group(radix int) (count int, power uint32) {
	all := uint64(radix)
	for count = 1; all*uint64(radix) <= limbMask; count++ {
		all *= uint64(radix)
	}
	return count, uint32(all)
}

// Text returns the digits of x.
func (x Int) Text(radix int) (string, api.Errno) {
	if radix < leastRadix || radix > greatestRadix {
		return "", api.ErrArg
	}
	if x.Sign() == 0 {
		return "0", api.OK
	}
	count, power := group(radix)
	var text []byte // from the last digit on
	for left := x.limbs; len(left) > 0; {
		var part uint32
		left, part = divideSmall(left, power)
		for range count {
			text = append(text, digits[part%uint32(radix)])
			part /= uint32(radix)
		}
	}
	for text[len(text)-1] == '0' {
		text = text[:len(text)-1]
	}
	if x.negative {
		text = append(text, '-')
	}
	slices.Reverse(text)
	return string(text), api.OK
}

// Parse returns the integer with digits.
func Parse(s string, radix int) (Int, api.Errno) {
	switch {
	case radix < leastRadix || radix > greatestRadix:
		return Int{}, api.ErrArg
	case len(s) > api.MaxDigits:
		return Int{}, api.ErrLarge
	}
	negative := false
	if s != "" && (s[0] == '+' || s[0] == '-') {
		negative = s[0] == '-'
		s = s[1:]
	}
	if s == "" {
		return Int{}, api.ErrForm
	}
	limbs, e := parseDigits(s, radix)
	if e != api.OK {
		return Int{}, e
	}
	return own(negative, limbs), api.OK
}

// parseDigits takes as many digits at once as go into a limb.
func parseDigits(s string, radix int) ([]uint32, api.Errno) {
	count, _ := group(radix)
	var limbs []uint32
	for s != "" {
		var part, power uint32 = 0, 1
		for range min(count, len(s)) {
			value := digitValue(s[0])
			if value >= radix {
				return nil, api.ErrForm
			}
			part = part*uint32(radix) + uint32(value)
			power *= uint32(radix)
			s = s[1:]
		}
		limbs = scaleAndAdd(limbs, power, part)
	}
	return limbs, api.OK
}

// digitValue returns the value of a digit, and for other bytes one that is none in any radix.
func digitValue(c byte) int {
	switch {
	case c >= '0' && c <= '9':
		return int(c - '0')
	case c >= 'A' && c <= 'Z':
		return int(c-'A') + 10
	case c >= 'a' && c <= 'z':
		return int(c-'a') + 10
	}
	return greatestRadix
}
