package macro_test

import (
	"slices"
	"strings"
	"testing"

	"commonform/api"
	"commonform/core"
	"commonform/forms"
	"commonform/lambda"
	"commonform/lib"
	"commonform/lisp"
	"commonform/macro"
)

// P22.1: DEFMACRO: the function is the core tree of Bind's form, expanded.
func TestDefineMacro(t *testing.T) {
	w := newWorld(t)
	for _, c := range []struct{ text, list, body string }{
		{"(defmacro m (x (y z) . r) \"doc\" (declare (foo)) (f x) y)", "(x (y z) . r)", "(declare (foo)) (block m (f x) y)"},
		{"(defmacro m nil \"x\")", "nil", "(block m \"x\")"}, {"(defmacro m (x))", "(x)", "(block m)"},
		{"(defmacro m (&key (k (and))) (when k 5))", "(&key (k t))", "(block m (if k (progn 5)))"},
	} {
		table, next, is, end := macro.Define(w, macro.New(), read(t, c.text), 7)
		if !is || end.Kind != lib.EndValues || len(table.Macros) != 1 || !lisp.Is(table.Macros[0].Name, "M") {
			t.Fatalf("%s: %v, %v", c.text, is, end)
		}
		l, e := lambda.Parse(read(t, c.list), true)
		body, _ := lisp.Elements(read(t, "("+c.body+")"))
		bound, n, e2 := lambda.Bind(l, read(t, "g7"), body, 8)
		tree, e3 := core.Convert(lisp.Call("FUNCTION", lisp.Call("LAMBDA", read(t, "(g7)"), bound)), nil)
		if e != api.OK || e2 != api.OK || e3 != api.OK {
			t.Fatal(e, e2, e3)
		}
		want, _ := core.Show(tree)
		if got, e := core.Show(table.Macros[0].Lambda); e != api.OK || got != want || next != n {
			t.Errorf("%s: %s, expected %s; %d, expected %d", c.text, got, want, next, n)
		}
	}
}

// P22.1: variables that are special everywhere, each once.
func TestDefineSpecials(t *testing.T) {
	w := newWorld(t)
	table := macro.New()
	for _, c := range []struct{ text, specials string }{
		{"(defvar a)", "A"}, {"(defparameter b 1)", "A B"}, {"(defconstant c 1 2 3)", "A B C"}, {"(defvar a 5)", "A B C"},
		{"(declaim (special d a e) (optimize speed) (special f) 5)", "A B C D E F"}, {"(declaim)", "A B C D E F"}, {"(declaim (special))", "A B C D E F"}, {"(declaim (other::special g))", "A B C D E F"},
	} {
		made, next, is, end := macro.Define(w, table, read(t, c.text), 9)
		var names []string
		for _, f := range made.Specials {
			names = append(names, f.Text)
		}
		if !is || next != 9 || end.Kind != lib.EndValues || strings.Join(names, " ") != c.specials || len(made.Macros) != 0 {
			t.Errorf("%s: %v, %v, %v", c.text, names, is, end)
		}
		table = made
	}
	made, _, _, _ := macro.Define(w, macro.New(), read(t, "(defvar other::a)"), 0)
	if len(made.Specials) != 1 || !forms.Is(made.Specials[0], "OTHER", "A") {
		t.Error(made.Specials)
	}
	made, _, _, _ = macro.Define(w, table, read(t, "(defmacro m (x) (let ((a 1)) (list a x)))"), 0)
	if text, _ := core.Show(made.Macros[0].Lambda); !strings.Contains(text, "(bind [1:COMMON-LISP:A]") {
		t.Error(text)
	}
}

// P22.1: what Define does not know, and what has not the shape.
func TestDefineErrors(t *testing.T) {
	w := newWorld(t)
	table := withMacros(t, w, macro.New(), "(defmacro m () 5)")
	isZero := func(x macro.Table, n int) bool {
		return len(x.Expanders)+len(x.Macros)+len(x.Specials)+n == 0
	}
	for _, text := range []string{"5", "x", "nil", "(defun f nil)", "(other::defvar x)", "((defvar) x)", "(progn (defvar x))", "(list . x)", "#1=(defvar #1#)"} {
		if made, n, is, end := macro.Define(w, table, read(t, text), 5); is || end.Kind != lib.EndValues || !isZero(made, n) {
			t.Errorf("%s: %v, %v", text, is, end)
		}
	}
	for _, f := range []api.Form{{}, {Kind: api.FormCons}, {Kind: api.FormCons, Kids: []api.Form{symbol("DEFVAR")}}} {
		if _, _, is, end := macro.Define(w, table, f, 5); is || end.Kind != lib.EndValues {
			t.Error(is, end)
		}
	}
	for text, want := range map[string]api.Errno{
		"(defmacro)": api.ErrForm, "(defmacro m)": api.ErrForm, "(defmacro 5 nil)": api.ErrForm, "(defmacro (m) nil)": api.ErrForm, "(defmacro m 5)": api.ErrForm, "(defmacro m (x x))": api.ErrForm,
		"(defmacro m nil . 5)": api.ErrForm, "(defmacro m nil (when))": api.ErrForm, "(defmacro m nil (defmacro n nil))": api.ErrForm, "(defmacro m nil (return-from n 1))": core.ErrScope, "(defmacro m nil (declare 5) 1)": core.ErrDeclare,
		"(defmacro m nil '#1=(#1#))": api.ErrForm, "(defvar)": api.ErrForm, "(defvar 5)": api.ErrForm, "(defvar nil)": api.ErrForm, "(defvar :k)": api.ErrForm, "(defvar x . y)": api.ErrForm, "(defparameter (x))": api.ErrForm, "(defconstant t)": api.ErrForm,
		"(declaim (special 5))": api.ErrForm, "(declaim (special x . y))": api.ErrForm, "(declaim . x)": api.ErrForm, "(declaim (special x t))": api.ErrForm,
	} {
		if made, n, is, end := macro.Define(w, table, read(t, text), 5); is || end.Kind != lib.EndBad || end.Code != want || !isZero(made, n) {
			t.Errorf("%s: %v, %v", text, is, end)
		}
	}
	for _, c := range []struct {
		f    api.Form
		want api.Errno
	}{
		{lisp.Call("DEFVAR", symbol("X"), nested(100)), api.ErrDepth}, {lisp.Call("DEFVAR", symbol("X"), vector(2000)), api.ErrSize}, {lisp.Call("DEFVAR", symbol("X"), api.Form{Kind: 99}), api.ErrForm},
		{lisp.Call("DEFMACRO", symbol("X"), forms.Nil(), nested(99)), api.ErrDepth}, {lisp.Call("DEFMACRO", symbol("X"), forms.Nil(), vector(1990)), api.ErrSize},
	} {
		if made, n, is, end := macro.Define(w, table, c.f, 5); is || end.Kind != lib.EndBad || end.Code != c.want || !isZero(made, n) {
			t.Errorf("%.50s: %v, %v", show(c.f), is, end)
		}
	}
	failing := withMacros(t, w, table, "(defmacro fail () (car 5))")
	if made, n, is, end := macro.Define(w, failing, read(t, "(defmacro n () (fail))"), 5); is || end.Kind != lib.EndFault || !isZero(made, n) {
		t.Error(is, end)
	}
}

// P22.1: what Define returns shares no memory with the table that it was given.
func TestDefineShares(t *testing.T) {
	w := newWorld(t)
	table := withMacros(t, w, macro.New(), "(defmacro m (x &key y) (let ((z 1)) (list 'a x y z)))", "(defvar v)")
	table.Expanders = []macro.Named{{Name: "E"}}
	before, _ := core.Show(table.Macros[0].Lambda)
	made := withMacros(t, w, table, "(defvar u)")
	made.Expanders[0].Name = "CHANGED"
	made.Specials[0].Text = "CHANGED"
	made.Macros[0].Name.Text = "CHANGED"
	change(&made.Macros[0].Lambda)
	after, e := core.Show(table.Macros[0].Lambda)
	if e != api.OK || after != before || table.Expanders[0].Name != "E" || table.Specials[0].Text != "V" || table.Macros[0].Name.Text != "M" {
		t.Error(after)
	}
	again := withMacros(t, w, table, "(defvar u)")
	other := withMacros(t, w, table, "(defvar w)")
	if !slices.EqualFunc(again.Specials, []api.Form{symbol("V"), symbol("U")}, forms.Equal) || other.Specials[1].Text != "W" {
		t.Error(again.Specials, other.Specials)
	}
}

// change changes all that a core tree has.
func change(c *api.Core) {
	c.Op += 100
	for i := range c.Vars {
		c.Vars[i] = -1
	}
	for i := range c.Pars {
		c.Pars[i].Var = -1
	}
	for i := range c.Data.Kids {
		c.Data.Kids[i].Text = "CHANGED"
	}
	for i := range c.Kids {
		change(&c.Kids[i])
	}
}
