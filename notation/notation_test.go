package notation

import (
	"slices"
	"testing"

	"commonform/api"
	"commonform/forms"
)

func symbol(home, name string) api.Form { return forms.Symbol(home, name) }

func cons(kids ...api.Form) api.Form { return api.Form{Kind: api.FormCons, Kids: kids} }

func TestLists(t *testing.T) {
	x := symbol("P", "X")
	comma := Make(Comma, x)
	if !forms.Equal(comma, cons(symbol("READER", "COMMA"), x, forms.Nil())) {
		t.Errorf("Make = %v", comma)
	}
	vector := comma
	vector.Kind = api.FormVector
	for i, c := range []struct {
		f          api.Form
		begins, is bool
	}{
		{comma, true, true}, {Make(Splice, x), false, false}, {cons(symbol(Home, Comma), forms.Nil()), true, false}, {cons(symbol(Home, Comma), x, x, forms.Nil()), true, false}, {cons(symbol(Home, Comma), x, x), true, false}, {cons(symbol("P", Comma), x, forms.Nil()), false, false}, {cons(x, symbol(Home, Comma), forms.Nil()), false, false}, {vector, false, false}, {cons(), false, false}, {cons(symbol(Home, Comma)), true, false}, {symbol(Home, Comma), false, false},
	} {
		if begins, is := Begins(c.f, Comma), Is(c.f, Comma); begins != c.begins || is != c.is {
			t.Errorf("the list %d: Begins %v, Is %v", i, begins, is)
		}
	}
}

func TestFront(t *testing.T) {
	x := symbol("P", "X")
	call := func(name string) api.Form { return forms.Call(name, []api.Form{x}) }
	vector := call("QUOTE")
	vector.Kind = api.FormVector
	for i, c := range []struct {
		f     api.Form
		depth int
		front string
		inner int
	}{
		{call("QUOTE"), 0, "'", 0}, {call("FUNCTION"), 2, "#'", 2}, {call("LIST"), 1, "", 1}, {Make(Backquote, x), 0, "`", 1}, {Make(Backquote, x), 1, "`", 2}, {Make(Comma, x), 0, "", 0}, {Make(Comma, x), 1, ",", 0}, {Make(Comma, x), 2, ",", 1}, {Make(Splice, x), 0, "", 0}, {Make(Splice, x), 1, ",@", 0}, {Make(Splice, x), 3, ",@", 2},
		{cons(symbol("READER", "QUOTE"), x, forms.Nil()), 1, "", 1}, {cons(symbol("COMMON-LISP", "COMMA"), x, forms.Nil()), 1, "", 1}, {cons(symbol("COMMON-LISP", "QUOTE"), x, x), 1, "", 1}, {cons(symbol("COMMON-LISP", "QUOTE"), forms.Nil()), 1, "", 1}, {cons(symbol("COMMON-LISP", "QUOTE"), x, x, forms.Nil()), 1, "", 1}, {cons(x, symbol("COMMON-LISP", "QUOTE"), forms.Nil()), 1, "", 1}, {vector, 1, "", 1}, {x, 1, "", 1},
	} {
		if front, inner := Front(c.f, c.depth); front != c.front || inner != c.inner {
			t.Errorf("Front of the list %d = %q, %d; want %q, %d", i, front, inner, c.front, c.inner)
		}
	}
}

func TestDimensions(t *testing.T) {
	for text, want := range map[string][]int{"": nil, "2 3": {2, 3}, "0 2000 10": {0, 2000, 10}} {
		if l := Dimensions(text); !slices.Equal(l, want) {
			t.Errorf("Dimensions(%q) = %v", text, l)
		}
	}
}
