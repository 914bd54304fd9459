package reader

import (
	"math/rand"
	"strconv"
	"testing"

	"commonform/api"
	"commonform/forms"
	"commonform/notation"
)

// P7.1: Backquote.
func TestBackquote(t *testing.T) {
	a, b, n := sym("A"), sym("B"), forms.Nil()
	quote := func(f api.Form) api.Form { return call("QUOTE", f) }
	part := func(f api.Form) api.Form { return call("LIST", f) }
	comma, splice := forms.Symbol(notation.Home, "COMMA"), forms.Symbol(notation.Home, "SPLICE")
	backquote := forms.Symbol(notation.Home, "BACKQUOTE")
	vector := func(f api.Form) api.Form {
		return call("APPLY", call("FUNCTION", forms.Symbol("COMMON-LISP", "VECTOR")), f)
	}
	for _, c := range []struct{ f, want api.Form }{
		{a, quote(a)}, {n, quote(n)}, {num("1"), quote(num("1"))}, {str("x"), quote(str("x"))}, {node(api.FormArray, "1 1", back("COMMA", a)), quote(node(api.FormArray, "1 1", back("COMMA", a)))}, {comma, quote(comma)},
		{back("COMMA", a), a}, {back("COMMA", list(a, b)), list(a, b)}, {back("COMMA", back("COMMA", a)), back("COMMA", a)},
		{list(a, b), call("APPEND", part(quote(a)), part(quote(b)), quote(n))}, {cons(a, b), call("APPEND", part(quote(a)), quote(b))}, {list(a, back("COMMA", b), back("SPLICE", a)), call("APPEND", part(quote(a)), part(b), a, quote(n))}, {list(back("SPLICE", a)), call("APPEND", a, quote(n))}, {list(list(back("SPLICE", a))), call("APPEND", part(call("APPEND", a, quote(n))), quote(n))},
		{cons(a, comma, b, n), call("APPEND", part(quote(a)), b)}, {cons(a, b, comma, a, n), call("APPEND", part(quote(a)), part(quote(b)), a)}, {cons(a, comma, b, a, n), call("APPEND", part(quote(a)), part(quote(comma)), part(quote(b)), part(quote(a)), quote(n))}, {cons(a, comma, n), call("APPEND", part(quote(a)), part(quote(comma)), quote(n))}, {cons(a, comma, b, b), call("APPEND", part(quote(a)), part(quote(comma)), part(quote(b)), quote(b))}, {cons(a, back("SPLICE", b), vec(a)), call("APPEND", part(quote(a)), b, vector(call("APPEND", part(quote(a)), quote(n))))},
		{vec(), vector(quote(n))}, {vec(a, back("COMMA", b), back("SPLICE", a)), vector(call("APPEND", part(quote(a)), part(b), a, quote(n)))}, {vec(comma, a), vector(a)}, {list(vec(back("COMMA", a))), call("APPEND", part(vector(call("APPEND", part(a), quote(n)))), quote(n))},
		{back("BACKQUOTE", back("COMMA", a)), call("APPEND", part(quote(backquote)), part(call("APPEND", part(quote(comma)), part(quote(a)), quote(n))), quote(n))},
		{back("BACKQUOTE", back("COMMA", back("COMMA", a))), call("APPEND", part(quote(backquote)), part(call("APPEND", part(quote(comma)), part(a), quote(n))), quote(n))},
		{back("BACKQUOTE", back("COMMA", back("SPLICE", a))), call("APPEND", part(quote(backquote)), part(call("APPEND", part(quote(comma)), a, quote(n))), quote(n))},
		{back("BACKQUOTE", back("SPLICE", back("COMMA", a))), call("APPEND", part(quote(backquote)), part(call("APPEND", part(quote(splice)), part(a), quote(n))), quote(n))},
		{back("BACKQUOTE", cons(a, comma, back("COMMA", b), n)), call("APPEND", part(quote(backquote)), part(call("APPEND", part(quote(a)), call("APPEND", part(quote(comma)), part(b), quote(n)))), quote(n))},
		{list(backquote), call("APPEND", part(quote(backquote)), quote(n))}, {list(backquote, a, back("COMMA", b)), call("APPEND", part(quote(backquote)), part(quote(a)), part(b), quote(n))}, {cons(backquote, back("COMMA", b), a), call("APPEND", part(quote(backquote)), part(b), quote(a))}, {cons(backquote, comma, b, n), call("APPEND", part(quote(backquote)), b)}, {list(backquote, comma), call("APPEND", part(quote(backquote)), part(quote(comma)), quote(n))},
	} {
		f, e := Backquote(c.f)
		if e != api.OK || show(f) != show(c.want) {
			t.Errorf("Backquote(%s) = %s, %v; want %s", show(c.f), show(f), e, show(c.want))
		}
	}
	deep, wide := vec(), func(n int) api.Form { return list(many(n, a)...) }
	for range 99 {
		deep = vec(deep)
	}
	nested := func(n int) api.Form {
		f := a
		for range n {
			f = list(f)
		}
		return f
	}
	for _, c := range []struct {
		f    api.Form
		want api.Errno
	}{
		{num("x"), api.ErrForm}, {vec(many(2000, a)...), api.ErrSize}, {ref("1"), forms.ErrLabel}, {lab("1", vec()), forms.ErrLabel}, {list(a, lab("1", vec())), forms.ErrLabel}, {list(back("SPLICE", a), lab("1", vec())), forms.ErrLabel}, {vec(lab("1", vec()), lab("1", vec())), api.ErrTwice}, {node(api.FormArray, "", lab("1", vec())), forms.ErrLabel}, {cons(a, lab("1", vec())), forms.ErrLabel},
		{back("SPLICE", a), ErrComma}, {cons(a, splice, b, n), ErrComma}, {vec(splice, a), ErrComma}, {list(back("COMMA"), a), api.ErrForm}, {back("COMMA"), api.ErrForm}, {back("COMMA", a, b), api.ErrForm}, {cons(comma, a), api.ErrForm}, {back("SPLICE", a, b), api.ErrForm}, {list(a, back("SPLICE")), api.ErrForm}, {cons(splice, a, b), api.ErrForm}, {back("BACKQUOTE", back("COMMA", back("COMMA", a, b))), api.ErrForm}, {list(back("SPLICE", a, b), back("SPLICE")), api.ErrForm}, {vec(back("COMMA", a, b), splice), api.ErrForm}, {list(back("COMMA", a, b), vec(splice, a)), api.ErrForm}, {list(vec(splice, a), back("COMMA", a, b)), ErrComma},
		{back("BACKQUOTE", cons(a, splice, b, n)), api.OK}, {back("BACKQUOTE", back("COMMA", a, b)), api.OK}, {back("BACKQUOTE", back("SPLICE", back("SPLICE", a))), api.OK},
		{wide(284), api.OK}, {wide(285), api.ErrSize}, {list(append(many(283, a), many(3, back("COMMA", a))...)...), api.OK}, {list(append(many(283, a), back("SPLICE", a), back("COMMA", a), back("COMMA", a), back("COMMA", a))...), api.ErrSize}, {nested(48), api.OK}, {nested(49), api.OK}, {nested(50), api.ErrSize}, {deep, api.ErrSize}, {back("COMMA", wide(1995)), api.OK},
	} {
		f, e := Backquote(c.f)
		if e != c.want || e != api.OK && f.Kind != 0 {
			t.Errorf("Backquote(%.60s) = %.60s, %v; want %v", show(c.f), show(f), e, c.want)
		}
	}
	x := list(b)
	f, _ := Backquote(back("COMMA", x))
	f.Kids[0].Text = "CHANGED"
	if x.Kids[0].Text != "B" {
		t.Error("Backquote shares memory with the form")
	}
}

// template makes forms by chance in which commas name values: x0, x1 and so on have the values of values.
type template struct {
	*rand.Rand
	values map[string]api.Form
	comma  bool // whether there may be commas
	vector bool
}

func (m *template) form(depth int) api.Form {
	switch {
	case m.comma && m.Intn(4) == 0:
		return back("COMMA", m.value(sym(strconv.Itoa(m.Intn(9)))))
	case depth == 0 || m.Intn(4) == 0:
		return []api.Form{sym("A"), num("7"), forms.Nil(), str("x")}[m.Intn(4)]
	}
	var l []api.Form
	for range m.Intn(4) {
		if m.comma && m.Intn(4) == 0 {
			l = append(l, back("SPLICE", m.value(list(many(m.Intn(3), sym("S"))...))))
			continue
		}
		l = append(l, m.form(depth-1))
	}
	if m.vector && m.Intn(4) == 0 {
		return vec(l...)
	}
	if len(l) > 0 && m.Intn(4) == 0 {
		return forms.Dotted(l, m.form(depth-1))
	}
	return list(l...)
}

// value returns a variable with a value.
func (m *template) value(f api.Form) api.Form {
	name := "x" + strconv.Itoa(len(m.values))
	m.values[name] = f
	return sym(name)
}

// fill returns a template with its values put in, as they stand for the commas.
func (m *template) fill(f api.Form) api.Form {
	switch {
	case notation.Is(f, notation.Comma):
		return m.values[f.Kids[1].Text]
	case f.Kind == api.FormVector:
		items, _ := forms.Items(m.fill(list(f.Kids...)))
		return vec(items...)
	case f.Kind != api.FormCons:
		return f
	}
	if notation.Is(f.Kids[0], notation.Splice) {
		values, _ := forms.Items(m.values[f.Kids[0].Kids[1].Text])
		return forms.Dotted(values, m.fill(rest(f)))
	}
	return forms.Dotted([]api.Form{m.fill(f.Kids[0])}, m.fill(rest(f)))
}

func rest(f api.Form) api.Form {
	if len(f.Kids) == 2 {
		return f.Kids[1]
	}
	return cons(f.Kids[1:]...)
}

// evaluate returns the value of what Backquote makes.
func (m *template) evaluate(t *testing.T, f api.Form) api.Form {
	if f.Kind == api.FormSymbol && f.Home == "P" {
		return m.values[f.Text]
	}
	items, ok := forms.Items(f)
	if !ok || len(items) == 0 || items[0].Home != "COMMON-LISP" {
		t.Fatalf("%s is no form of Backquote", show(f))
	}
	if items[0].Text == "QUOTE" {
		return items[1]
	}
	if items[0].Text == "APPLY" && m.vector {
		l, _ := forms.Items(m.evaluate(t, items[2]))
		return vec(l...)
	}
	var l []api.Form
	for _, item := range items[1:] {
		l = append(l, m.evaluate(t, item))
	}
	switch items[0].Text {
	case "LIST":
		return list(l...)
	case "APPEND":
		all := l[len(l)-1]
		for i := len(l) - 2; i >= 0; i-- {
			part, ok := forms.Items(l[i])
			if !ok {
				t.Fatalf("%s appends what is no list", show(f))
			}
			all = forms.Dotted(part, all)
		}
		return all
	}
	t.Fatalf("%s calls another function", show(f))
	return api.Form{}
}

// P7.6.
func TestBackquoteValues(t *testing.T) {
	r := rand.New(rand.NewSource(1))
	for i := range 6000 {
		m := &template{Rand: r, values: map[string]api.Form{}, comma: i%3 > 0, vector: i%3 == 2}
		f := m.form(3)
		made, e := Backquote(f)
		if e != api.OK {
			t.Fatalf("Backquote(%s): %v", show(f), e)
		}
		if got, want := m.evaluate(t, made), m.fill(f); show(got) != show(want) {
			t.Fatalf("Backquote(%s) has the value %s; want %s", show(f), show(got), show(want))
		}
		if made, e := Backquote(back("COMMA", f)); e != api.OK || show(made) != show(f) {
			t.Fatalf("Backquote of a comma and %s = %s, %v", show(f), show(made), e)
		}
	}
}
