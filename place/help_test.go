package place_test

import (
	"strings"
	"testing"

	"commonform/api"
	"commonform/forms"
	"commonform/lisp"
	"commonform/place"
	"commonform/printer"
	"commonform/reader"
)

// read reads a form with symbols of COMMON-LISP; G0 is the fresh symbol 0, and so on.
func read(t *testing.T, text string) api.Form {
	t.Helper()
	found, at, e := reader.One(reader.Standard(lisp.Home), text)
	if e != api.OK {
		t.Fatalf("%s: %v at %d", text, e, at)
	}
	return named(found.Form)
}

func named(f api.Form) api.Form {
	if f.Kind == api.FormSymbol && len(f.Text) > 1 && f.Text[0] == 'G' && strings.Trim(f.Text[1:], "0123456789") == "" {
		return forms.Symbol("%", f.Text[1:])
	}
	var kids []api.Form
	for _, kid := range f.Kids {
		kids = append(kids, named(kid))
	}
	f.Kids = kids
	return f
}

func show(f api.Form) string {
	o := printer.Standard(lisp.Home)
	text, e := printer.Print(o, f)
	if e != api.OK {
		return "error " + e.Error()
	}
	return strings.ToLower(text)
}

func symbol(name string) api.Form { return lisp.Symbol(name) }

// vector is a right form that is no list.
func vector(n int) api.Form {
	f := api.Form{Kind: api.FormVector}
	for range n {
		f.Kids = append(f.Kids, lisp.Small(1))
	}
	return f
}

// nested returns a list in a list and so on, with a number in the middle.
func nested(depth int) api.Form {
	f := lisp.Small(1)
	for range depth - 1 {
		f = lisp.List(f)
	}
	return f
}

// isZero reports whether nothing stands in the results of Macro and Expand beside an error.
func isZero(f api.Form, n int) bool { return forms.Equal(f, api.Form{}) && n == 0 }

func isZeroPlace(p place.Place, n int) bool {
	return len(p.Temps)+len(p.Values)+len(p.Stores) == 0 && isZero(p.Read, n) && isZero(p.Write, n)
}
