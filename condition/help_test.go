package condition_test

import (
	"strings"
	"testing"

	"commonform/api"
	"commonform/forms"
	"commonform/lisp"
	"commonform/printer"
	"commonform/reader"
)

// read reads a form with symbols of COMMON-LISP; G0 is the fresh symbol 0, and so on.
func read(t *testing.T, text string) api.Form {
	t.Helper()
	found, at, e := reader.One(reader.Standard(lisp.Home), text)
	if e != api.OK {
		t.Fatalf("%s: %v at %d", text, e, at)
	}
	return named(found.Form)
}

func named(f api.Form) api.Form {
	if f.Kind == api.FormSymbol && len(f.Text) > 1 && f.Text[0] == 'G' && strings.Trim(f.Text[1:], "0123456789") == "" {
		return forms.Symbol("%", f.Text[1:])
	}
	return changed(f, named)
}

// changed returns a form with other parts.
func changed(f api.Form, change func(api.Form) api.Form) api.Form {
	var kids []api.Form
	for _, kid := range f.Kids {
		kids = append(kids, change(kid))
	}
	f.Kids = kids
	return f
}

func show(f api.Form) string {
	text, e := printer.Print(printer.Standard(lisp.Home), f)
	if e != api.OK {
		return "error " + e.Error()
	}
	return strings.ToLower(text)
}

func symbol(name string) api.Form { return lisp.Symbol(name) }

// nested returns a list in a list and so on, with a number in the middle.
func nested(depth int) api.Form {
	f := lisp.Small(1)
	for range depth - 1 {
		f = lisp.List(f)
	}
	return f
}
