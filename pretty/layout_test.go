package pretty

import (
	"math/rand"
	"slices"
	"strings"
	"testing"

	"commonform/api"
	"commonform/forms"
	"commonform/notation"
	"commonform/printer"
	"commonform/reader"
	"commonform/token"
)

func sym(name string) api.Form { return forms.Symbol("P", name) }

func lisp(name string) api.Form { return forms.Symbol("COMMON-LISP", name) }

func num(s string) api.Form { return api.Form{Kind: api.FormInt, Text: s} }

func list(l ...api.Form) api.Form { return forms.List(l) }

func vec(l ...api.Form) api.Form { return api.Form{Kind: api.FormVector, Kids: l} }

func array(dimensions string, l ...api.Form) api.Form {
	return api.Form{Kind: api.FormArray, Text: dimensions, Kids: l}
}

// usual are the options of most tests.
func usual() printer.Options {
	o := printer.Standard("P")
	o.Uses = []string{"COMMON-LISP"}
	return o
}

func with(change func(o *printer.Options)) printer.Options {
	o := usual()
	change(&o)
	return o
}

// P9.1: Styles.
func TestStyles(t *testing.T) {
	want := "DEFUN 2, DEFMACRO 2, LAMBDA 1, LET 1, LET* 1, FLET 1, LABELS 1, MACROLET 1, SYMBOL-MACROLET 1, WHEN 1, UNLESS 1, DOLIST 1, DOTIMES 1, BLOCK 1, CATCH 1, EVAL-WHEN 1, HANDLER-BIND 1, PROGN 0, UNWIND-PROTECT 1, MULTIPLE-VALUE-BIND 2, DESTRUCTURING-BIND 2, DEFCLASS 2, CASE 1, COND 0, IF 1"
	var l []string
	for _, style := range Styles() {
		l = append(l, style.Name+" "+string(rune('0'+style.Args)))
	}
	if got := strings.Join(l, ", "); got != want {
		t.Errorf("Styles = %s", got)
	}
	Styles()[0].Args = 9
	if Styles()[0].Args != 2 {
		t.Error("Styles is not new memory")
	}
}

// P9.1: the operations of forms.
func TestLayout(t *testing.T) {
	a, b, space := sym("A"), sym("B"), text(" ")
	word := func(l ...Op) []Op { return l }
	label := api.Form{Kind: api.FormLabel, Text: "5", Kids: []api.Form{list(a, api.Form{Kind: api.FormRef, Text: "5"})}}
	limit := func(length, level int) printer.Options {
		return with(func(o *printer.Options) { o.Length, o.Level = length, level })
	}
	styled := []Style{{"TWO", 2}, {"ONE", 1}, {"NONE", 0}, {"TWO", 0}, {"A", 0}}
	call := func(name string, n int) api.Form {
		var l []api.Form
		for range n {
			l = append(l, b)
		}
		return forms.Call(name, l)
	}
	comma := func(f api.Form) api.Form { return notation.Make(notation.Backquote, notation.Make(notation.Comma, f)) }
	for i, c := range []struct {
		o    printer.Options
		f    api.Form
		want []Op
	}{
		{usual(), a, word(text("a"))}, {usual(), num("1"), word(text("1"))}, {usual(), list(), word(text("nil"))}, {usual(), api.Form{Kind: api.FormChar, Text: " "}, word(text(`#\Space`))}, {usual(), api.Form{Kind: api.FormString, Text: "x y"}, word(text(`"x y"`))}, {usual(), api.Form{Kind: api.FormBits, Text: "10"}, word(text("#*10"))}, {usual(), api.Form{Kind: api.FormComplex, Kids: []api.Form{num("1"), num("2")}}, word(text("#C(1 2)"))},
		{usual(), list(a), word(open("("), text("a"), closing(")"))}, {usual(), list(a, b), word(open("("), text("a"), space, indentHere(0), text("b"), closing(")"))}, {usual(), list(a, b, b, b), word(open("("), text("a"), space, indentHere(0), text("b"), space, line(Linear), text("b"), space, line(Linear), text("b"), closing(")"))},
		{usual(), forms.Dotted([]api.Form{a}, b), word(open("("), text("a"), space, indentHere(0), text(". "), text("b"), closing(")"))}, {usual(), forms.Dotted([]api.Form{a, a}, b), word(open("("), text("a"), space, indentHere(0), text("a"), space, line(Linear), text(". "), text("b"), closing(")"))},
		{usual(), list(num("1"), a, b), word(open("("), text("1"), space, line(Fill), text("a"), space, line(Fill), text("b"), closing(")"))}, {usual(), forms.Dotted([]api.Form{num("1")}, b), word(open("("), text("1"), space, line(Fill), text(". "), text("b"), closing(")"))}, {usual(), list(list(a)), word(open("("), open("("), text("a"), closing(")"), closing(")"))}, {usual(), vec(a, b), word(open("#("), text("a"), space, line(Fill), text("b"), closing(")"))}, {usual(), vec(), word(open("#("), closing(")"))},
		{usual(), call("TWO", 0), word(open("("), text("two"), closing(")"))}, {usual(), call("TWO", 4), word(open("("), text("two"), space, indent(3), text("b"), space, line(Fill), text("b"), space, indent(1), line(Linear), text("b"), space, indent(1), line(Linear), text("b"), closing(")"))}, {usual(), call("TWO", 1), word(open("("), text("two"), space, indent(3), text("b"), closing(")"))}, {usual(), call("ONE", 2), word(open("("), text("one"), space, indent(3), text("b"), space, indent(1), line(Linear), text("b"), closing(")"))}, {usual(), call("NONE", 2), word(open("("), text("none"), space, indent(3), indent(1), line(Linear), text("b"), space, indent(1), line(Linear), text("b"), closing(")"))}, {usual(), list(sym("ONE"), b), word(open("("), text("one"), space, indentHere(0), text("b"), closing(")"))}, {usual(), forms.Dotted([]api.Form{lisp("ONE")}, b), word(open("("), text("one"), space, indent(3), text(". "), text("b"), closing(")"))}, {usual(), forms.Dotted([]api.Form{lisp("ONE"), a}, b), word(open("("), text("one"), space, indent(3), text("a"), space, indent(1), line(Linear), text(". "), text("b"), closing(")"))},
		{limit(1, -1), list(a, b), word(open("("), text("a"), space, indentHere(0), text("..."), closing(")"))}, {limit(2, -1), call("ONE", 3), word(open("("), text("one"), space, indent(3), text("b"), space, indent(1), line(Linear), text("..."), closing(")"))}, {limit(0, -1), list(a, b), word(open("("), text("..."), closing(")"))}, {limit(2, -1), forms.Dotted([]api.Form{num("1"), a, b}, b), word(open("("), text("1"), space, line(Fill), text("a"), space, line(Fill), text("..."), closing(")"))}, {limit(-1, 0), list(a), word(text("#"))}, {limit(-1, 1), list(a, list(b)), word(open("("), text("a"), space, indentHere(0), text("#"), closing(")"))}, {limit(-1, 1), forms.Dotted([]api.Form{a}, vec(b)), word(open("("), text("a"), space, indentHere(0), text(". "), text("#"), closing(")"))}, {limit(-1, 0), vec(a), word(text("#"))}, {limit(1, -1), vec(a), word(open("#("), text("a"), closing(")"))},
		{usual(), array("2 1", a, b), word(open("#2A("), open("("), text("a"), closing(")"), space, line(Fill), open("("), text("b"), closing(")"), closing(")"))}, {usual(), array("2 0"), word(open("#2A("), open("("), closing(")"), space, line(Fill), open("("), closing(")"), closing(")"))}, {usual(), array("0 0"), word(open("#2A("), closing(")"))}, {usual(), array("", list(a)), word(text("#0A"), open("("), text("a"), closing(")"))}, {limit(-1, 0), array("1 1", a), word(text("#2A#"))}, {limit(-1, 1), array("2 1", a, b), word(open("#2A("), text("#"), space, line(Fill), text("#"), closing(")"))}, {limit(1, -1), array("2 1", a, b), word(open("#2A("), open("("), text("a"), closing(")"), space, line(Fill), text("..."), closing(")"))}, {limit(-1, 0), array("", list(a)), word(text("#0A"), text("#"))},
		{with(func(o *printer.Options) { o.Array = false }), list(vec(a), array("", a), api.Form{Kind: api.FormBits}), word(open("("), text("#<VECTOR>"), space, line(Fill), text("#<ARRAY>"), space, line(Fill), text("#<BIT-VECTOR>"), closing(")"))},
		{usual(), forms.Call("QUOTE", []api.Form{list(a)}), word(text("'"), open("("), text("a"), closing(")"))}, {usual(), comma(a), word(text("`"), text(","), text("a"))}, {usual(), comma(sym("@A")), word(text("`"), text(", "), text("@a"))}, {usual(), notation.Make(notation.Backquote, notation.Make(notation.Splice, sym("@A"))), word(text("`"), text(",@"), text("@a"))}, {with(func(o *printer.Options) { o.Escape = false }), comma(list(api.Form{Kind: api.FormString}, sym("@"))), word(text("`"), text(","), open("("), text(""), space, line(Fill), text("@"), closing(")"))}, {with(func(o *printer.Options) { o.Abbrev = false }), forms.Call("QUOTE", []api.Form{a}), word(open("("), text("quote"), space, indentHere(0), text("a"), closing(")"))}, {usual(), notation.Make(notation.Comma, a), word(open("("), text("reader::comma"), space, indentHere(0), text("a"), closing(")"))}, {limit(-1, 0), forms.Call("QUOTE", []api.Form{a}), word(text("'"), text("a"))},
		{with(func(o *printer.Options) { o.Circle = true }), label, word(text("#0="), open("("), text("a"), space, indentHere(0), text("#0#"), closing(")"))}, {with(func(o *printer.Options) { o.Circle = true }), vec(label, array("1 1", api.Form{Kind: api.FormRef, Text: "5"})), word(open("#("), text("#0="), open("("), text("a"), space, indentHere(0), text("#0#"), closing(")"), space, line(Fill), open("#2A("), open("("), text("#0#"), closing(")"), closing(")"), closing(")"))}, {usual(), list(api.Form{Kind: api.FormLabel, Text: "1", Kids: []api.Form{vec(a)}}, api.Form{Kind: api.FormRef, Text: "1"}), word(open("("), open("#("), text("a"), closing(")"), space, line(Fill), open("#("), text("a"), closing(")"), closing(")"))},
	} {
		l, e := Layout(c.o, styled, c.f)
		if e != api.OK || !slices.Equal(l, c.want) {
			t.Errorf("Layout of the form %d = %v, %v; want %v", i, l, e, c.want)
		}
	}
}

// P9.1: the errors of Layout and Print.
func TestLayoutErrors(t *testing.T) {
	a := sym("A")
	many := func(n int, f api.Form) []api.Form { return slices.Repeat([]api.Form{f}, n) }
	deep := array("1 1 1 1 1 1 1", a)
	for range 94 {
		deep = list(deep)
	}
	styles := func(n, args int) []Style { return slices.Repeat([]Style{{"X", args}}, n) }
	wrong := with(func(o *printer.Options) { o.Base = 0 })
	for i, c := range []struct {
		o      printer.Options
		styles []Style
		f      api.Form
		want   api.Errno
	}{
		{usual(), styles(100, 10), a, api.OK}, {usual(), styles(101, 11), api.Form{}, api.ErrSize}, {usual(), styles(1, 11), api.Form{}, api.ErrArg}, {usual(), styles(1, -1), api.Form{}, api.ErrArg}, {wrong, styles(101, 0), a, api.ErrArg}, {with(func(o *printer.Options) { o.Table = token.Table{Entries: make([]token.Entry, 65)} }), styles(1, 11), a, api.ErrSize},
		{usual(), nil, api.Form{}, api.ErrForm}, {usual(), nil, list(api.Form{Kind: api.FormLabel, Text: "1", Kids: []api.Form{list(api.Form{Kind: api.FormRef, Text: "1"})}}), forms.ErrCircle}, {usual(), nil, forms.Symbol("Q", ""), api.ErrArg}, {with(func(o *printer.Options) { o.Readable = true }), nil, array("0 1"), printer.ErrReadable},
		{usual(), nil, vec(many(1333, a)...), api.OK}, {usual(), nil, vec(many(1334, a)...), api.ErrSize}, {usual(), nil, api.Form{Kind: api.FormString, Text: strings.Repeat("x", 19998)}, api.OK}, {usual(), nil, api.Form{Kind: api.FormString, Text: strings.Repeat("x", 19999)}, api.ErrSize}, {usual(), nil, deep, ErrBlock}, {usual(), nil, deep.Kids[0], api.OK},
	} {
		l, e := Layout(c.o, c.styles, c.f)
		if e != c.want || e != api.OK && len(l) > 0 {
			t.Errorf("Layout of the form %d: %v; want %v", i, e, c.want)
		}
		if s, e := Print(c.o, c.f, 40, 0); len(c.styles) == 0 && (e != c.want || e != api.OK && s != "") {
			t.Errorf("Print of the form %d: %v; want %v", i, e, c.want)
		}
	}
	for _, c := range []struct {
		width, miser int
		f            api.Form
		want         api.Errno
	}{{0, 0, a, api.ErrArg}, {201, 0, a, api.ErrArg}, {1, 201, a, api.ErrArg}, {0, 0, api.Form{}, api.ErrForm}, {200, 200, a, api.OK}} {
		if s, e := Print(usual(), c.f, c.width, c.miser); e != c.want || (s == "a") != (e == api.OK) {
			t.Errorf("Print in %d, %d = %q, %v; want %v", c.width, c.miser, s, e, c.want)
		}
	}
}

// P9.1: Print.
func TestPrint(t *testing.T) {
	o := usual()
	read := func(s string) api.Form {
		x, at, e := reader.One(reader.Standard("COMMON-LISP"), s)
		if e != api.OK {
			t.Fatalf("One(%q) = %d, %v", s, at, e)
		}
		return x.Form
	}
	for _, c := range []struct {
		s            string
		width, miser int
		want         string
	}{
		{"(defun p::f (x) (list x x))", 20, 0, "(defun p::f (x)\n  (list x x))"}, {"(p::foo a b)", 10, 0, "(p::foo a\n        b)"}, {"(p::foo a b)", 12, 0, "(p::foo a b)"}, {"(progn aa bb)", 10, 0, "(progn\n  aa\n  bb)"}, {"(if aa bb cc)", 10, 0, "(if aa\n  bb\n  cc)"}, {"(cond (a b) (c d))", 12, 0, "(cond\n  (a b)\n  (c d))"}, {"(multiple-value-bind (a b) (cccc dddd) e)", 30, 0, "(multiple-value-bind (a b)\n    (cccc dddd)\n  e)"}, {"(let ((a 1) (b 2)) c)", 14, 0, "(let ((a 1)\n      (b 2))\n  c)"}, {"#(aa bb cc dd)", 9, 0, "#(aa bb\n  cc dd)"}, {"(1 2 3 4)", 6, 0, "(1 2\n 3 4)"}, {"#2a((1 2) (3 4))", 10, 0, "#2A((1 2)\n    (3 4))"}, {"'(aa bb cc)", 8, 0, "'(aa bb\n     cc)"}, {"(aa bb . cc)", 8, 0, "(aa bb\n    . cc)"}, {"(defun f (x) (list x x))", 20, 20, "(defun f\n (x)\n (list x x))"},
	} {
		o := o
		o.Package = "COMMON-LISP"
		if s, e := Print(o, read(c.s), c.width, c.miser); s != c.want || e != api.OK {
			t.Errorf("Print(%s) in %d = %q, %v; want %q", c.s, c.width, s, e, c.want)
		}
	}
}

// P9.6.
func TestForms(t *testing.T) {
	reads := 0
	eachForm(t, func(r *rand.Rand, o printer.Options, f api.Form) {
		want, e := printer.Print(o, f)
		l, e1 := Layout(o, Styles(), f)
		if e != e1 {
			t.Fatalf("Layout: %v; want %v", e1, e)
		}
		if e != api.OK {
			return
		}
		if s, e := Flat(l); s != want || e != api.OK {
			t.Fatalf("Flat of Layout = %q, %v; want %q", s, e, want)
		}
		width, miser := 1+r.Intn(40), r.Intn(20)
		s, e := Print(o, f, width, miser)
		if e != api.OK || words(s) != words(want) {
			t.Fatalf("Print = %q, %v; want the words of %q", s, e, want)
		}
		in := reader.Standard("P")
		x, _, e := reader.One(in, want)
		y, _, g := reader.One(in, s)
		if e != g || e == api.OK && !forms.Equal(x.Form, y.Form) {
			t.Fatalf("Print = %q is not read as %q", s, want)
		}
		if e == api.OK {
			reads++
		}
	})
	if reads < 1000 {
		t.Errorf("only %d forms were read", reads)
	}
}
