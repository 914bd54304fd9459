package number

import (
	"strconv"

	"commonform/api"
	"commonform/float"
	"commonform/integer"
	"commonform/rational"
)

const (
	leastBase    = 2
	greatestBase = 36
)

// Read returns the number of a token.
func Read(text string, base int, double bool) (api.Form, api.Errno) {
	switch {
	case base < leastBase || base > greatestBase:
		return api.Form{}, api.ErrArg
	case len(text) > api.MaxDigits:
		return api.Form{}, api.ErrLarge
	}
	x, e := readReal(text, base, double)
	if e != api.OK {
		return api.Form{}, e
	}
	return ofScalar(x).encode()
}

func readReal(text string, base int, double bool) (scalar, api.Errno) {
	ratio, e := rational.Parse(text, base)
	if e != api.ErrForm {
		return ofRatio(ratio), e
	}
	r := reader{text: text}
	t := r.token()
	switch {
	case t.isInteger():
		n, e := integer.Parse(text[:len(text)-1], 10)
		return ofInteger(n), e
	case t.isFloat():
		return t.float(text, double)
	}
	return scalar{}, api.ErrForm
}

// reader goes through a token from its beginning on.
type reader struct {
	text string
	at   int
}

// next returns the next byte, and 0 at the end, where no token has a meaning for it.
func (r *reader) next() byte {
	if r.at == len(r.text) {
		return 0
	}
	return r.text[r.at]
}

func (r *reader) sign() {
	if c := r.next(); c == '+' || c == '-' {
		r.at++
	}
}

// digits passes decimal digits, and returns how many there were.
func (r *reader) digits() int {
	from := r.at
	for r.next() >= '0' && r.next() <= '9' {
		r.at++
	}
	return r.at - from
}

// token is what is found in a token: how many digits there are, with a point or none, and the place and the letter of an exponent; without one the letter is 0.
type token struct {
	ahead, behind int
	point, end    bool
	place         int
	letter        byte
}

// token passes whatever is like a float.
func (r *reader) token() token {
	var t token
	r.sign()
	t.ahead = r.digits()
	if r.next() == '.' {
		r.at++
		t.point = true
		t.behind = r.digits()
	}
	if letter := r.next() | ('a' - 'A'); isExponent(letter) {
		t.letter, t.place = letter, r.at
		r.at++
		r.sign()
		t.end = r.digits() > 0 && r.at == len(r.text)
		return t
	}
	t.end = r.at == len(r.text)
	return t
}

// isExponent reports whether a small letter begins an exponent.
func isExponent(letter byte) bool {
	switch letter {
	case 'e', 's', 'f', 'd', 'l':
		return true
	}
	return false
}

// isInteger reports whether a token is a decimal integer with a point.
func (t token) isInteger() bool {
	return t.end && t.ahead > 0 && t.point && t.behind == 0 && t.letter == 0
}

func (t token) isFloat() bool {
	return t.end && (t.point && t.behind > 0 || t.ahead > 0 && t.letter != 0)
}

// float returns the float with the text of such a token.
func (t token) float(text string, isDouble bool) (scalar, api.Errno) {
	kind := single
	switch t.letter {
	case 'd', 'l':
		kind = double
	case 'e', 0:
		if isDouble {
			kind = double
		}
	}
	if t.letter != 0 {
		text = text[:t.place] + "e" + text[t.place+1:]
	}
	bits, e := float.Read(formatOf(kind), text)
	return scalar{kind: kind, bits: bits}, e
}

// Print returns the text of a number.
func Print(x api.Form, base int, radix, double bool) (string, api.Errno) {
	z, e := decode(x)
	if e != api.OK {
		return "", e
	}
	if base < leastBase || base > greatestBase {
		return "", api.ErrArg
	}
	text := z.parts[0].print(base, radix, double)
	if z.complex {
		text = "#C(" + text + " " + z.parts[1].print(base, radix, double) + ")"
	}
	return text, api.OK
}

// print returns the text of a real number in a right base.
func (x scalar) print(base int, radix, isDouble bool) string {
	if x.kind != exact {
		usual := float.Single
		if isDouble {
			usual = float.Double
		}
		text, _ := float.Print(x.format(), x.bits, usual)
		return text
	}
	text, _ := x.ratio.Text(base)
	switch {
	case !radix:
		return text
	case base == 10 && x.ratio.Whole():
		return text + "."
	}
	return prefix(base) + text
}

// prefix returns what stands in front of digits of a base.
func prefix(base int) string {
	switch base {
	case 2:
		return "#b"
	case 8:
		return "#o"
	case 16:
		return "#x"
	}
	return "#" + strconv.Itoa(base) + "r"
}
