package macro_test

import (
	"strings"
	"testing"

	"commonform/api"
	"commonform/forms"
	"commonform/lib"
	"commonform/lisp"
	"commonform/macro"
	"commonform/printer"
	"commonform/reader"
)

// read reads a form with symbols of COMMON-LISP; G0 is the fresh variable 0, and so on.
func read(t *testing.T, text string) api.Form {
	t.Helper()
	found, at, e := reader.One(reader.Standard(lisp.Home), text)
	if e != api.OK {
		t.Fatalf("%s: %v at %d", text, e, at)
	}
	return named(found.Form)
}

func named(f api.Form) api.Form {
	if f.Kind == api.FormSymbol && len(f.Text) > 1 && f.Text[0] == 'G' && strings.Trim(f.Text[1:], "0123456789") == "" {
		return forms.Symbol("%", f.Text[1:])
	}
	return changed(f, named)
}

// changed returns a form with other parts.
func changed(f api.Form, change func(api.Form) api.Form) api.Form {
	var kids []api.Form
	for _, kid := range f.Kids {
		kids = append(kids, change(kid))
	}
	f.Kids = kids
	return f
}

func show(f api.Form) string {
	o := printer.Standard(lisp.Home)
	o.Circle = true
	text, e := printer.Print(o, f)
	if e != api.OK {
		return "error " + e.Error()
	}
	return strings.ToLower(text)
}

func symbol(name string) api.Form { return lisp.Symbol(name) }

// nested returns a list of LIST in another one and so on, with a number in the middle.
func nested(depth int) api.Form {
	f := lisp.Small(1)
	for range depth - 1 {
		f = lisp.Call("LIST", f)
	}
	return f
}

// vector returns a vector with some numbers.
func vector(n int) api.Form {
	f := api.Form{Kind: api.FormVector}
	for range n {
		f.Kids = append(f.Kids, lisp.Small(1))
	}
	return f
}

func newWorld(t *testing.T) *lib.World {
	t.Helper()
	w, e := lib.New(api.MaxWords, 1000)
	if e != api.OK {
		t.Fatal(e)
	}
	return w
}

// withMacros returns a table with the macros of DEFMACRO forms.
func withMacros(t *testing.T, w *lib.World, table macro.Table, texts ...string) macro.Table {
	t.Helper()
	for _, text := range texts {
		made, _, is, end := macro.Define(w, table, read(t, text), 1000)
		if !is || end.Kind != lib.EndValues {
			t.Fatalf("%s: %v, %v", text, is, end)
		}
		table = made
	}
	return table
}

// isBad reports whether nothing stands beside an end that tells an error.
func isBad(f api.Form, n int, end lib.End, code api.Errno) bool {
	isZero := forms.Equal(f, api.Form{}) && n == 0 && len(end.Values) == 0
	return end.Kind == lib.EndBad && end.Code == code && isZero
}
