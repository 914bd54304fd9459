// Package lisp makes forms of symbols of COMMON-LISP and of fresh symbols, for the layers that expand macros.
package lisp

import (
	"strconv"

	"commonform/api"
	"commonform/forms"
)

// Home is the home of the symbols that have a meaning of their own.
const Home = "COMMON-LISP"

// freshHome is a package that no reader knows, so that no text has a fresh symbol.
const freshHome = "%"

// Symbol returns a symbol of COMMON-LISP.
func Symbol(name string) api.Form { return forms.Symbol(Home, name) }

// Is reports whether a form is a symbol of COMMON-LISP.
func Is(f api.Form, name string) bool { return forms.Is(f, Home, name) }

// IsFirst reports whether a number may be that of the first fresh symbol that is taken.
func IsFirst(n int) bool { return n >= 0 && n <= 1<<30 }

// Fresh returns the fresh symbol with a number.
func Fresh(n int) api.Form { return forms.Symbol(freshHome, strconv.Itoa(n)) }

// Counter takes fresh symbols: Next is the number of the next one.
type Counter struct{ Next int }

// Fresh returns the next fresh symbol.
func (c *Counter) Fresh() api.Form {
	f := Fresh(c.Next)
	c.Next++
	return f
}

// List returns a proper list. It shares the memory of its elements: who has made a form of such lists copies it as a whole.
func List(l ...api.Form) api.Form {
	if len(l) == 0 {
		return forms.Nil()
	}
	kids := make([]api.Form, 0, len(l)+1)
	kids = append(kids, l...)
	return api.Form{Kind: api.FormCons, Kids: append(kids, forms.Nil())}
}

// Call returns the list of a symbol of COMMON-LISP and its arguments.
func Call(name string, args ...api.Form) api.Form {
	return List(append([]api.Form{Symbol(name)}, args...)...)
}

// Body returns a list like that of Call with one argument, and the forms of lists behind it.
func Body(name string, first api.Form, rest ...[]api.Form) api.Form {
	args := []api.Form{first}
	for _, l := range rest {
		args = append(args, l...)
	}
	return Call(name, args...)
}

// Quote returns a form whose value is a form.
func Quote(f api.Form) api.Form { return Call("QUOTE", f) }

// Truth returns T.
func Truth() api.Form { return Symbol("T") }

// Small returns the form of a number.
func Small(n int) api.Form { return api.Form{Kind: api.FormInt, Text: strconv.Itoa(n)} }

// Elements returns those of a proper list; they share its memory.
func Elements(f api.Form) ([]api.Form, bool) {
	if forms.IsNil(f) {
		return nil, true
	}
	last := len(f.Kids) - 1
	if f.Kind != api.FormCons || last < 1 || !forms.IsNil(f.Kids[last]) {
		return nil, false
	}
	return f.Kids[:last:last], true
}

// Arguments returns the elements behind the first one of a proper list that begins with a symbol of COMMON-LISP, and the name of this symbol.
func Arguments(f api.Form) (name string, args []api.Form, ok bool) {
	l, ok := Elements(f)
	if !ok || len(l) == 0 || l[0].Kind != api.FormSymbol || l[0].Home != Home {
		return "", nil, false
	}
	return l[0].Text, l[1:], true
}
