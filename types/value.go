package types

import (
	"strconv"
	"strings"

	"commonform/api"
	"commonform/float"
	"commonform/number"
)

const floor = 0 // the way of number.Quotient

func plus(x, y api.Form) api.Form {
	sum, _ := number.Add(x, y)
	return sum
}

func minus(x, y api.Form) api.Form {
	difference, _ := number.Sub(x, y)
	return difference
}

func over(x, y api.Form) api.Form {
	quotient, _ := number.Div(x, y)
	return quotient
}

func floorOf(x api.Form) api.Form {
	quotient, _, _ := number.Quotient(floor, x, whole(1))
	return quotient
}

// integers returns the integers next to each value that is mentioned: the first and the last one between any two values are among them, and one beyond them all on both sides.
func (m mentioned) integers() []atom {
	var l []api.Form
	for _, value := range m.values {
		n := floorOf(value)
		l = append(l, less(n, 1), n, plus(n, whole(1)))
	}
	return atomsOf(l)
}

// ratios returns the ratios that are mentioned, and one between any two values, and beyond them all.
func (m mentioned) ratios() []atom {
	first, last := m.values[0], m.values[len(m.values)-1]
	l := append(m.values[:len(m.values):len(m.values)], between(less(first, 1), first)...)
	l = append(l, between(last, plus(last, whole(1)))...)
	for i, value := range m.values[1:] {
		l = append(l, between(m.values[i], value)...)
	}
	var all []atom
	for _, a := range atomsOf(l) {
		if a.kind == kindRatio {
			all = append(all, a)
		}
	}
	return all
}

// between returns two rational numbers between two others, at least one of which is no integer: both are less than 1 above the first one.
func between(low, high api.Form) []api.Form {
	width := minus(high, low)
	part := plus(floorOf(width), whole(2))
	return []api.Form{plus(low, over(width, part)), plus(low, over(width, plus(part, whole(1))))}
}

// floats returns the floats of a kind next to each value that is mentioned, and both zeros. A value beyond all floats has none next to it; those next to the other values, of which 0 is one, do for these.
func (m mentioned) floats(kind int, format float.Format) []atom {
	l := []api.Form{negativeZero(kind)}
	for _, value := range m.values {
		x, e := number.Float(value, kind)
		if e != api.OK {
			continue
		}
		l = append(l, x)
		bits, _ := strconv.ParseUint(x.Text, 16, 64)
		for _, up := range [...]bool{false, true} {
			if next, e := float.Next(format, bits, up); e == api.OK {
				l = append(l, floatOf(kind, next))
			}
		}
	}
	return atomsOf(l)
}

func negativeZero(kind int) api.Form {
	if kind == api.FormSingle {
		return floatOf(kind, 1<<31)
	}
	return floatOf(kind, 1<<63)
}

func floatOf(kind int, bits uint64) api.Form {
	width := 16
	if kind == api.FormSingle {
		width = 8
	}
	text := strconv.FormatUint(bits, 16)
	return api.Form{Kind: kind, Text: strings.Repeat("0", width-len(text)) + text}
}
