package loop_test

import (
	"strings"
	"testing"

	"commonform/api"
	"commonform/forms"
	"commonform/lisp"
	"commonform/loop"
	"commonform/printer"
	"commonform/reader"
)

// read reads a form with symbols of COMMON-LISP; G0 is the fresh symbol 0, and so on.
func read(t *testing.T, text string) api.Form {
	t.Helper()
	found, at, e := reader.One(reader.Standard(lisp.Home), text)
	if e != api.OK {
		t.Fatalf("%s: %v at %d", text, e, at)
	}
	return named(found.Form)
}

func named(f api.Form) api.Form {
	if f.Kind == api.FormSymbol && len(f.Text) > 1 && f.Text[0] == 'G' && strings.Trim(f.Text[1:], "0123456789") == "" {
		return forms.Symbol("%", f.Text[1:])
	}
	return changed(f, named)
}

// changed returns a form with other parts.
func changed(f api.Form, change func(api.Form) api.Form) api.Form {
	var kids []api.Form
	for _, kid := range f.Kids {
		kids = append(kids, change(kid))
	}
	f.Kids = kids
	return f
}

func show(f api.Form) string {
	text, e := printer.Print(printer.Standard(lisp.Home), f)
	if e != api.OK {
		return "error " + e.Error()
	}
	return strings.ToLower(text)
}

func shows(l []api.Form) string {
	var words []string
	for _, f := range l {
		words = append(words, show(f))
	}
	return strings.Join(words, " ")
}

// describe says what clauses say.
func describe(l []loop.Clause) string {
	var words []string
	for _, c := range l {
		word := kinds[c.Kind]
		if c.Var.Kind != 0 {
			word += " " + show(c.Var)
		}
		word += " [" + shows(c.Forms) + "]"
		if len(c.Then) > 0 {
			word += " {" + describe(c.Then) + "}"
		}
		if len(c.Else) > 0 {
			word += " else {" + describe(c.Else) + "}"
		}
		words = append(words, word)
	}
	return strings.Join(words, "; ")
}

var kinds = []string{"none", "named", "with", "initially", "finally", "arithmetic", "in", "on", "across", "equals", "repeat", "while", "until", "always", "never", "thereis", "do", "collect", "append", "sum", "count", "maximize", "minimize", "if", "unless", "return"}

func symbol(name string) api.Form { return lisp.Symbol(name) }
