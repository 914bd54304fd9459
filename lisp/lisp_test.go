package lisp_test

import (
	"testing"

	"commonform/api"
	"commonform/forms"
	"commonform/lisp"
)

// Lists are those of layer 1, and share their elements' memory, but no list's end.
func TestLists(t *testing.T) {
	a, b := lisp.Symbol("A"), lisp.Small(-5)
	for _, l := range [][]api.Form{nil, {a}, {a, b}, {lisp.Quote(a), lisp.Truth()}} {
		if made := lisp.List(l...); !forms.Equal(made, forms.List(l)) || forms.Check(made) != api.OK {
			t.Error(made)
		}
		if made := lisp.Call("F", l...); !forms.Equal(made, forms.Call("F", l)) {
			t.Error(made)
		}
	}
	want := forms.Call("F", []api.Form{a, b, a, b})
	if made := lisp.Body("F", a, []api.Form{b, a}, nil, []api.Form{b}); !forms.Equal(made, want) {
		t.Error(made)
	}
	l, ok := lisp.Elements(lisp.List(a, b))
	if !ok || len(l) != 2 || len(append(l, a)) != 3 || !forms.IsNil(lisp.List(a, b).Kids[2]) {
		t.Error(l)
	}
	whole := lisp.List(a, b)
	l, _ = lisp.Elements(whole)
	_ = append(l, a)
	if !forms.IsNil(whole.Kids[2]) {
		t.Error("the end of a list was changed")
	}
}

// Elements and Arguments have only proper lists.
func TestElements(t *testing.T) {
	a := lisp.Symbol("A")
	for _, f := range []api.Form{a, lisp.Small(1), {Kind: api.FormCons}, {Kind: api.FormCons, Kids: []api.Form{forms.Nil()}}, forms.Dotted([]api.Form{a}, a), {Kind: api.FormVector, Kids: []api.Form{a, forms.Nil()}}} {
		if l, ok := lisp.Elements(f); ok || l != nil {
			t.Error(f)
		}
		if _, _, ok := lisp.Arguments(f); ok {
			t.Error(f)
		}
	}
	if l, ok := lisp.Elements(forms.Nil()); !ok || len(l) != 0 {
		t.Error(l)
	}
	if name, l, ok := lisp.Arguments(lisp.Call("F", a)); !ok || name != "F" || len(l) != 1 {
		t.Error(name, l)
	}
	for _, f := range []api.Form{forms.Nil(), lisp.List(lisp.Small(1)), lisp.List(forms.Symbol("", "F")), lisp.List(forms.Symbol("KEYWORD", "F"))} {
		if name, l, ok := lisp.Arguments(f); ok || name != "" || l != nil {
			t.Error(f)
		}
	}
}

// Fresh symbols are counted.
func TestFresh(t *testing.T) {
	c := lisp.Counter{Next: 9}
	first, second := c.Fresh(), c.Fresh()
	if !forms.Is(first, "%", "9") || !forms.Is(second, "%", "10") || c.Next != 11 || !forms.Equal(lisp.Fresh(-1), forms.Symbol("%", "-1")) {
		t.Error(first, second, c)
	}
	for n, want := range map[int]bool{-1: false, 0: true, 1 << 30: true, 1<<30 + 1: false} {
		if lisp.IsFirst(n) != want {
			t.Error(n)
		}
	}
	if !lisp.Is(lisp.Truth(), "T") || lisp.Is(forms.Symbol("", "T"), "T") || lisp.Small(12).Text != "12" {
		t.Error("symbols and numbers")
	}
}
