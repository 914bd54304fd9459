package sequence

import (
	"strconv"
	"strings"

	"commonform/api"
	"commonform/number"
)

// parts returns the keys: what they take of an element, if there is such a thing.
func parts() [keys]func(x api.Form) (api.Form, bool) {
	return [keys]func(x api.Form) (api.Form, bool){
		Whole:  func(x api.Form) (api.Form, bool) { return x, true },
		First:  firstKid,
		Second: secondElement,
		Length: func(x api.Form) (api.Form, bool) {
			n, ok := lengthOf(x)
			return api.Form{Kind: api.FormInt, Text: strconv.Itoa(n)}, ok
		},
	}
}

func firstKid(x api.Form) (api.Form, bool) {
	if x.Kind != api.FormCons || len(x.Kids) == 0 {
		return api.Form{}, false
	}
	return x.Kids[0], true
}

func secondElement(x api.Form) (api.Form, bool) {
	if x.Kind != api.FormCons || len(x.Kids) == 0 {
		return api.Form{}, false
	}
	if len(x.Kids) > 2 {
		return x.Kids[1], true
	}
	return firstKid(x.Kids[len(x.Kids)-1])
}

func lengthOf(x api.Form) (int, bool) {
	switch x.Kind {
	case api.FormVector:
		return len(x.Kids), true
	case api.FormString:
		return len(x.Text), true
	case api.FormCons:
		return len(x.Kids) - 1, true
	}
	return 0, false
}

// rule is an order: which elements it takes, and which of two such ones is less.
type rule struct {
	takes func(x api.Form) bool
	less  func(x, y api.Form) bool
}

func rules() [orders]rule {
	textLess := func(x, y api.Form) bool { return x.Text < y.Text }
	return [orders]rule{
		Numbers: {takes: isReal, less: func(x, y api.Form) bool {
			sign, _ := number.Cmp(x, y)
			return sign < 0
		}},
		Characters: {takes: isKind(api.FormChar), less: textLess},
		Strings:    {takes: isKind(api.FormString), less: textLess},
	}
}

func isReal(x api.Form) bool { return x.Kind != api.FormComplex && number.Check(x) == api.OK }

func isKind(kind int) func(x api.Form) bool {
	return func(x api.Form) bool { return x.Kind == kind }
}

// signs returns the tests. Each gives an element a sign; two elements are alike if their signs are equal, so that an element need be looked at only once.
func signs() [tests]func(x api.Form) string {
	return [tests]func(x api.Form) string{
		Same:  func(x api.Form) string { return signed(x, writeSame) },
		Loose: func(x api.Form) string { return signed(x, writeLoose) },
	}
}

func signed(x api.Form, write func(b *strings.Builder, x api.Form)) string {
	var b strings.Builder
	write(&b, x)
	return b.String()
}

// writeText writes a text with its length, so that no sign begins with another one.
func writeText(b *strings.Builder, text string) {
	b.WriteString(strconv.Itoa(len(text)) + ":" + text)
}

func writeSame(b *strings.Builder, x api.Form) {
	b.WriteString("f" + strconv.Itoa(x.Kind) + ",")
	writeText(b, x.Text)
	writeText(b, x.Home)
	writeKids(b, x.Kids, writeSame)
}

func writeKids(b *strings.Builder, kids []api.Form, write func(b *strings.Builder, x api.Form)) {
	b.WriteString(strconv.Itoa(len(kids)) + ";")
	for _, kid := range kids {
		write(b, kid)
	}
}

func writeLoose(b *strings.Builder, x api.Form) {
	switch x.Kind {
	case api.FormChar:
		b.WriteString("c")
		writeText(b, great(x.Text))
	case api.FormString:
		b.WriteString("s")
		writeText(b, great(x.Text))
	case api.FormCons:
		b.WriteString("l")
		writeKids(b, x.Kids, writeLoose)
	case api.FormVector:
		b.WriteString("v")
		writeKids(b, x.Kids, writeLoose)
	default:
		if number.Check(x) != api.OK {
			writeSame(b, x)
			return
		}
		writeValue(b, x)
	}
}

// writeValue writes the exact value of a number, which is the same for all kinds: without an imaginary part that is 0.
func writeValue(b *strings.Builder, x api.Form) {
	re, im := x, api.Form{Kind: api.FormInt, Text: "0"}
	if x.Kind == api.FormComplex {
		re, im = x.Kids[0], x.Kids[1]
	}
	b.WriteString("n")
	for _, part := range [2]api.Form{re, im} {
		value, _ := number.Rational(part)
		writeText(b, value.Text)
	}
}

// great returns a text with its letters a to z as A to Z.
func great(text string) string {
	bytes := []byte(text)
	for i, c := range bytes {
		if c >= 'a' && c <= 'z' {
			bytes[i] = c - 'a' + 'A'
		}
	}
	return string(bytes)
}
