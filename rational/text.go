package rational

import (
	"strings"

	"commonform/api"
	"commonform/integer"
)

// Text returns the text of x.
func (x Ratio) Text(radix int) (string, api.Errno) {
	n, e := x.n.Text(radix)
	if e != api.OK || x.Whole() {
		return n, e
	}
	d, e := x.d.Text(radix)
	return n + "/" + d, e
}

// Parse returns the fraction with a text.
func Parse(s string, radix int) (Ratio, api.Errno) {
	upper, lower, two := strings.Cut(s, "/")
	n, e := integer.Parse(upper, radix)
	if !two {
		return Of(n), e
	}
	switch {
	case e == api.ErrArg:
		return Ratio{}, e
	case len(s) > api.MaxDigits:
		return Ratio{}, api.ErrLarge
	case e != api.OK:
		return Ratio{}, e
	case strings.HasPrefix(lower, "+") || strings.HasPrefix(lower, "-"):
		return Ratio{}, api.ErrForm
	}
	d, e := integer.Parse(lower, radix)
	if e != api.OK {
		return Ratio{}, e
	}
	return New(n, d)
}
