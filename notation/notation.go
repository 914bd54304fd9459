// Package notation has what the reader and both printers agree on: the lists of two elements that stand for ' #' ` , and ,@ and the dimensions of arrays.
package notation

import (
	"strconv"
	"strings"

	"commonform/api"
	"commonform/forms"
)

// Home is the home of the symbols below.
const Home = "READER"

// Names of the symbols of the reader.
const (
	Backquote = "BACKQUOTE"
	Comma     = "COMMA"
	Splice    = "SPLICE"
)

// CommaText is what stands in front of a form whose value is to be put in; Splice has a further character.
const CommaText = ","

const lisp = "COMMON-LISP"

// Make returns the list of a symbol of the reader and a form.
func Make(name string, x api.Form) api.Form {
	return forms.List([]api.Form{forms.Symbol(Home, name), x})
}

// Begins reports whether a form is a list whose first element is a symbol of the reader.
func Begins(f api.Form, name string) bool {
	return f.Kind == api.FormCons && len(f.Kids) > 0 && forms.Is(f.Kids[0], Home, name)
}

// Is reports whether a form is a list of a symbol of the reader and just one form more.
func Is(f api.Form, name string) bool { return Begins(f, name) && isPair(f) }

// Front returns the characters that stand for the first element of a list in a depth of backquotes, and the depth in which its second element is written; no characters if it is no such list.
func Front(f api.Form, depth int) (string, int) {
	if !isPair(f) {
		return "", depth
	}
	first := f.Kids[0]
	switch {
	case forms.Is(first, lisp, "QUOTE"):
		return "'", depth
	case forms.Is(first, lisp, "FUNCTION"):
		return "#'", depth
	case forms.Is(first, Home, Backquote):
		return "`", depth + 1
	case depth > 0 && forms.Is(first, Home, Comma):
		return CommaText, depth - 1
	case depth > 0 && forms.Is(first, Home, Splice):
		return CommaText + "@", depth - 1
	}
	return "", depth
}

func isPair(f api.Form) bool {
	return f.Kind == api.FormCons && len(f.Kids) == 3 && forms.IsNil(f.Kids[2])
}

// Dimensions returns the dimensions of a right FormArray with a Text. (Layer 1 tells them of whole forms alone, not of parts with references to other parts.)
func Dimensions(text string) []int {
	var l []int
	for word := range strings.FieldsSeq(text) {
		n, _ := strconv.Atoi(word)
		l = append(l, n)
	}
	return l
}
