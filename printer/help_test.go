package printer

import (
	"math/rand"
	"strconv"
	"strings"
	"testing"

	"commonform/api"
	"commonform/forms"
	"commonform/notation"
	"commonform/token"
)

func node(kind int, text string, kids ...api.Form) api.Form {
	return api.Form{Kind: kind, Text: text, Kids: kids}
}

func sym(name string) api.Form { return forms.Symbol("P", name) }

func lisp(name string) api.Form { return forms.Symbol("COMMON-LISP", name) }

func num(text string) api.Form { return node(api.FormInt, text) }

func str(text string) api.Form { return node(api.FormString, text) }

func char(text string) api.Form { return node(api.FormChar, text) }

func vec(kids ...api.Form) api.Form { return node(api.FormVector, "", kids...) }

func array(text string, kids ...api.Form) api.Form { return node(api.FormArray, text, kids...) }

func cons(kids ...api.Form) api.Form { return node(api.FormCons, "", kids...) }

func list(kids ...api.Form) api.Form { return forms.List(kids) }

func lab(n string, kid api.Form) api.Form { return node(api.FormLabel, n, kid) }

func ref(n string) api.Form { return node(api.FormRef, n) }

func back(name string, kids ...api.Form) api.Form {
	return list(append([]api.Form{forms.Symbol(notation.Home, name)}, kids...)...)
}

func many(n int, f api.Form) []api.Form {
	var l []api.Form
	for range n {
		l = append(l, f)
	}
	return l
}

// usual are the options of most tests.
func usual() Options {
	o := Standard("P")
	o.Uses = []string{"COMMON-LISP"}
	return o
}

// with returns options after a change.
func with(change func(o *Options)) Options {
	o := usual()
	change(&o)
	return o
}

// table returns the readtable in which characters have other kinds, given in turn.
func table(t *testing.T, pairs ...rune) token.Table {
	t.Helper()
	var x token.Table
	for i := 0; i < len(pairs); i += 2 {
		next, e := token.Set(x, pairs[i], int(pairs[i+1]))
		if e != api.OK {
			t.Fatalf("Set(%q): %v", pairs[i], e)
		}
		x = next
	}
	return x
}

// maker makes right forms by chance.
type maker struct {
	*rand.Rand
	labels int
}

func (m *maker) pick(l ...string) string { return l[m.Intn(len(l))] }

func (m *maker) atom() api.Form {
	switch m.Intn(9) {
	case 0:
		return num(strconv.Itoa(m.Intn(200) - 100))
	case 1:
		return node(api.FormRatio, m.pick("1/2", "-3/4"))
	case 2:
		return m.float()
	case 3:
		re, im := m.float(), m.float()
		if re.Kind == im.Kind {
			return node(api.FormComplex, "", re, im)
		}
		return node(api.FormComplex, "", num("3"), node(api.FormRatio, "-1/3"))
	case 4:
		return char(m.pick("a", "A", " ", "\n", "\x00", "\x01", "(", "\\", "|", "\"", "é", "\u0085", "\u007f", "\ufffd", "#", ";"))
	case 5:
		return str(m.pick("", "a b", "\"\\|;", "\n", "é|", "@"))
	case 6:
		return node(api.FormBits, m.pick("", "0", "1101"))
	}
	return m.symbol()
}

func (m *maker) float() api.Form {
	if m.Intn(2) == 0 {
		return node(api.FormSingle, m.pick("3fc00000", "80000000", "47c35000", "00000001", "4b800000"))
	}
	return node(api.FormDouble, m.pick("3ff8000000000000", "8000000000000000", "7fefffffffffffff"))
}

func (m *maker) symbol() api.Form {
	name := m.pick("A", "a", "Ab", "FOO", "12", "1+", ".", "..", "A:B", ":", "a|b", `a\`, "A B", "(", "@A", "É", "-", "1E5", "FF", "#A", "A#", "\x01", "NIL", "QUOTE", "COMMA")
	if m.Intn(12) == 0 {
		return forms.Nil()
	}
	home := m.pick("P", "P", "COMMON-LISP", "KEYWORD", "", "Q", "q", "Odd One", "READER", "1")
	return forms.Symbol(home, name)
}

// form makes a form with labels; references are to labels to which the walk has come.
func (m *maker) form(depth int) api.Form {
	if m.labels > 0 && m.Intn(6) == 0 {
		return ref(m.number(m.Intn(m.labels)))
	}
	if m.Intn(5) == 0 {
		n := m.number(m.labels)
		m.labels++
		return lab(n, m.plain(depth-1))
	}
	return m.plain(depth)
}

func (m *maker) number(i int) string { return strconv.Itoa((i*7 + 5) % 1000) }

func (m *maker) plain(depth int) api.Form {
	if depth <= 0 {
		return m.atom()
	}
	switch m.Intn(8) {
	case 0:
		return vec(m.forms(depth, m.Intn(4))...)
	case 1:
		switch m.Intn(4) {
		case 0:
			return array("", m.form(depth-1))
		case 1:
			return array("2 0")
		case 2:
			return array("1 2 1", m.forms(depth, 2)...)
		}
		return array("2 2", m.forms(depth, 4)...)
	case 2, 3:
		name := m.pick("QUOTE", "FUNCTION", "BACKQUOTE", "BACKQUOTE", "COMMA", "COMMA", "SPLICE")
		first := forms.Symbol(notation.Home, name)
		if name == "QUOTE" || name == "FUNCTION" {
			first = lisp(name)
		}
		return cons(first, m.form(depth-1), forms.Nil())
	case 4:
		return m.atom()
	}
	items := m.forms(depth, 1+m.Intn(3))
	if m.Intn(3) > 0 {
		return list(items...)
	}
	if tail := m.form(depth - 1); tail.Kind != api.FormCons {
		return cons(append(items, tail)...)
	}
	return cons(append(items, num("0"))...)
}

func (m *maker) forms(depth, n int) []api.Form {
	var l []api.Form
	for range n {
		l = append(l, m.form(depth-1))
	}
	return l
}

// eachForm calls a test with many forms that are right.
func eachForm(t *testing.T, test func(r *rand.Rand, f api.Form)) {
	t.Helper()
	r := rand.New(rand.NewSource(1))
	for range 6000 {
		m := maker{Rand: r}
		f := m.form(4)
		if forms.Check(f) == api.OK { // a reference may have been to a label whose Kid was lost
			test(r, f)
		}
	}
}

// options makes options by chance, whose readtables can be those of readable texts.
func options(t *testing.T, r *rand.Rand) Options {
	t.Helper()
	var x token.Table
	for range r.Intn(3) {
		l := []rune{'!', '?', '@', '|', '\\', 'é', '*', '=', '_', '\x01', 127, '~'}
		next, e := token.Set(x, l[r.Intn(len(l))], r.Intn(7))
		if e != api.OK {
			t.Fatalf("Set: %v", e)
		}
		x = next
	}
	x.Case = r.Intn(4)
	o := Standard([]string{"P", "Q", "KEYWORD", "COMMON-LISP"}[r.Intn(4)])
	o.Table, o.Base, o.Radix, o.Double, o.Abbrev = x, 2+r.Intn(35), r.Intn(2) == 0, r.Intn(2) == 0, r.Intn(4) > 0
	if r.Intn(2) == 0 {
		o.Base = 10
	}
	if r.Intn(2) == 0 {
		o.External = []External{{"Q", "A"}, {"COMMON-LISP", "NIL"}, {"READER", "COMMA"}}
	}
	o.Length, o.Level = r.Intn(3)-1, r.Intn(3)-1
	return o
}

func plainText(t *testing.T, o Options, f api.Form) string {
	t.Helper()
	s, e := Print(o, f)
	if e != api.OK {
		t.Fatalf("Print: %v", e)
	}
	return s
}

func longText(n int) string { return strings.Repeat("x", n) }
