package core

import (
	"math/rand"
	"slices"
	"strconv"
	"strings"
	"testing"

	"commonform/api"
	"commonform/forms"
	"commonform/reader"
)

const home = "COMMON-LISP-USER"

// lispNames are those that the forms of the tests have of COMMON-LISP.
const lispNames = "NIL T QUOTE FUNCTION IF PROGN LET LET* SETQ BLOCK RETURN-FROM TAGBODY GO CATCH THROW UNWIND-PROTECT MULTIPLE-VALUE-CALL MULTIPLE-VALUE-PROG1 PROGV FLET LABELS LOCALLY THE LOAD-TIME-VALUE LAMBDA DECLARE SPECIAL &OPTIONAL &REST &KEY &AUX &ALLOW-OTHER-KEYS &WHOLE LIST"

// read reads a form, with the symbols of COMMON-LISP in their places.
func read(t *testing.T, text string) api.Form {
	t.Helper()
	found, at, e := reader.One(reader.Standard(home), text)
	if e != api.OK {
		t.Fatalf("%s: %v at %d", text, e, at)
	}
	return move(found.Form)
}

func move(f api.Form) api.Form {
	if f.Kind == api.FormSymbol && f.Home == home && slices.Contains(strings.Fields(lispNames), f.Text) {
		f.Home = lisp
	}
	var kids []api.Form
	for _, kid := range f.Kids {
		kids = append(kids, move(kid))
	}
	f.Kids = kids
	return f
}

// short writes symbols of a text of a core tree without their homes, if they are the usual ones.
func short(text string) string {
	return strings.NewReplacer("1:COMMON-LISP-USER:", "", "1:COMMON-LISP:", "=", "1:KEYWORD:", "%").Replace(text)
}

// long is its opposite for texts of the tests, which also have numbers without their kind behind const.
func long(text string) string {
	var out strings.Builder
	for text != "" {
		n := strings.IndexAny(text+" ", " ()[]{}")
		if n == 0 {
			out.WriteByte(text[0])
			text = text[1:]
			continue
		}
		word := text[:n]
		text = text[n:]
		switch {
		case word[0] == '=':
			word = "1:COMMON-LISP:" + word[1:]
		case word[0] == '%':
			word = "1:KEYWORD:" + word[1:]
		case word[0] >= 'A' && word[0] <= 'Z':
			word = "1:COMMON-LISP-USER:" + word
		case strings.HasSuffix(out.String(), "(const ") && !strings.Contains(word, ":"):
			word = "2::" + word
		}
		out.WriteString(word)
	}
	return out.String()
}

// treeOf returns the tree of a text, which need not be right.
func treeOf(t *testing.T, text string) api.Core {
	t.Helper()
	p := parser{text: long(text)}
	c := p.node()
	if p.at != len(p.text) {
		t.Fatalf("%s has no tree", text)
	}
	return c
}

// maker makes random expanded forms. Names of variables, functions, blocks and tags begin with a prefix.
type maker struct {
	*rand.Rand
	prefix                    string
	next                      int
	vars, funs, blocks, marks []api.Form
}

func newMaker(seed int64, prefix string) *maker {
	return &maker{Rand: rand.New(rand.NewSource(seed)), prefix: prefix}
}

func (m *maker) name() api.Form {
	m.next++
	return forms.Symbol(home, m.prefix+strconv.Itoa(m.next))
}

func list(l ...api.Form) api.Form { return forms.List(l) }

func call(name string, l ...api.Form) api.Form { return forms.Call(name, l) }

func number(n int) api.Form { return api.Form{Kind: api.FormInt, Text: strconv.Itoa(n)} }

func global(name string) api.Form { return forms.Symbol(home, name) }

// one returns one of some forms.
func (m *maker) one(l []api.Form) api.Form { return l[m.Intn(len(l))] }

// within makes something while more names are known.
func within[T any](names *[]api.Form, more []api.Form, made func() T) T {
	saved := *names
	*names = slices.Concat(saved, more)
	x := made()
	*names = saved
	return x
}

func (m *maker) atom() api.Form {
	if len(m.vars) > 0 && m.Intn(2) == 0 {
		return m.one(m.vars)
	}
	return m.one([]api.Form{number(m.Intn(5)), forms.Nil(), forms.Symbol(lisp, "T"), forms.Symbol("KEYWORD", "K"), global("S"), {Kind: api.FormString, Text: "a b"}, {Kind: api.FormChar, Text: "("}, call("QUOTE", list(global("Q"), number(1))), {Kind: api.FormVector}})
}

func (m *maker) some(depth, most int) []api.Form {
	var l []api.Form
	for range m.Intn(most + 1) {
		l = append(l, m.form(depth))
	}
	return l
}

// form makes an expanded form.
func (m *maker) form(depth int) api.Form {
	if depth == 0 {
		return m.atom()
	}
	depth--
	a := func() api.Form { return m.form(depth) }
	with := func(name string, first ...api.Form) api.Form {
		return call(name, append(first, m.some(depth, 2)...)...)
	}
	switch m.Intn(26) {
	case 0, 1:
		return with("PROGN")
	case 2:
		return call("IF", a(), a(), a())
	case 3:
		return call("IF", a(), a())
	case 4, 5, 6:
		return m.let(depth)
	case 7:
		v := append(slices.Clone(m.vars), global("S"))
		return call("SETQ", m.one(v), a(), m.one(v), a())
	case 8, 9:
		name := m.name()
		return within(&m.blocks, []api.Form{name}, func() api.Form { return with("BLOCK", name) })
	case 10, 11:
		return m.tagbody(depth)
	case 12:
		return with("CATCH", a())
	case 13:
		return call("THROW", a(), a())
	case 14:
		return with("UNWIND-PROTECT", a())
	case 15:
		return with("MULTIPLE-VALUE-CALL", a())
	case 16:
		return with("MULTIPLE-VALUE-PROG1", a())
	case 17:
		return with("PROGV", a(), a())
	case 18, 19:
		return m.functions(depth)
	case 20:
		return call("FUNCTION", m.one(append([]api.Form{m.lambda(depth), global("F")}, m.funs...)))
	case 21:
		return list(append([]api.Form{m.lambda(depth)}, m.some(depth, 2)...)...)
	case 22:
		return call("LOCALLY", call("DECLARE", list(forms.Symbol(lisp, "SPECIAL"), global("S"))), a())
	case 23:
		return m.jump(a)
	}
	if len(m.funs) > 0 {
		return list(append([]api.Form{m.one(m.funs)}, m.some(depth, 2)...)...)
	}
	return with("LIST")
}

// jump leaves to something that is known.
func (m *maker) jump(a func() api.Form) api.Form {
	if len(m.marks) > 0 && m.Intn(2) == 0 {
		return call("GO", m.one(m.marks))
	}
	if len(m.blocks) > 0 {
		return call("RETURN-FROM", m.one(m.blocks), a())
	}
	return call("THE", global("S"), a())
}

func (m *maker) let(depth int) api.Form {
	var bindings, names []api.Form
	name := m.one([]api.Form{forms.Symbol(lisp, "LET"), forms.Symbol(lisp, "LET*")})
	saved := m.vars
	for range m.Intn(3) {
		v := m.name()
		if m.Intn(6) == 0 && len(names) == 0 {
			v = global("S")
		}
		names = append(names, v)
		bindings = append(bindings, list(v, m.form(depth)))
		if name.Text == "LET*" {
			m.vars = append(slices.Clone(m.vars), v)
		}
	}
	m.vars = saved
	body := within(&m.vars, names, func() []api.Form { return m.some(depth, 2) })
	if m.Intn(4) == 0 && len(names) > 0 {
		declared := list(forms.Symbol(lisp, "SPECIAL"), m.one(names))
		body = append([]api.Form{call("DECLARE", declared)}, body...)
	}
	return list(append([]api.Form{name, list(bindings...)}, body...)...)
}

func (m *maker) tagbody(depth int) api.Form {
	tags := []api.Form{m.name(), m.name()}
	return within(&m.marks, tags, func() api.Form {
		l := []api.Form{forms.Symbol(lisp, "TAGBODY")}
		for _, tag := range tags {
			for _, f := range m.some(depth, 2) {
				if f.Kind == api.FormCons {
					l = append(l, f)
				}
			}
			l = append(l, tag)
		}
		return list(append(l, call("LIST"))...)
	})
}

// parameters makes a lambda list and its variables.
func (m *maker) parameters(depth int) (api.Form, []api.Form) {
	var l, names []api.Form
	add := func() api.Form {
		v := m.name()
		names = append(names, v)
		return v
	}
	for range m.Intn(3) {
		l = append(l, add())
	}
	init := func() api.Form { return within(&m.vars, names, func() api.Form { return m.form(depth) }) }
	if m.Intn(3) == 0 {
		f := init()
		l = append(l, forms.Symbol(lisp, "&OPTIONAL"), list(add(), f, add()))
	}
	if m.Intn(3) == 0 {
		l = append(l, forms.Symbol(lisp, "&REST"), add())
	}
	if m.Intn(3) == 0 {
		f := init()
		l = append(l, forms.Symbol(lisp, "&KEY"), list(list(forms.Symbol("KEYWORD", "K"), add()), f), forms.Symbol(lisp, "&ALLOW-OTHER-KEYS"))
	}
	if m.Intn(3) == 0 {
		f := init()
		l = append(l, forms.Symbol(lisp, "&AUX"), list(add(), f))
	}
	return list(l...), names
}

func (m *maker) lambda(depth int) api.Form {
	parameters, names := m.parameters(depth)
	body := within(&m.vars, names, func() []api.Form { return m.some(depth, 2) })
	if m.Intn(4) == 0 && len(names) > 0 {
		body = append([]api.Form{call("DECLARE", list(forms.Symbol(lisp, "SPECIAL"), m.one(names)))}, body...)
	}
	return call("LAMBDA", append([]api.Form{parameters}, body...)...)
}

func (m *maker) functions(depth int) api.Form {
	name := m.one([]api.Form{forms.Symbol(lisp, "FLET"), forms.Symbol(lisp, "LABELS")})
	names := []api.Form{m.name(), m.name()}[:m.Intn(3)]
	var inner []api.Form
	if name.Text == "LABELS" {
		inner = names
	}
	definitions := within(&m.funs, inner, func() []api.Form {
		var all []api.Form
		for _, f := range names {
			lambda := m.lambda(depth)
			all = append(all, list(append([]api.Form{f}, lambda.Kids[1:len(lambda.Kids)-1]...)...))
		}
		return all
	})
	body := within(&m.funs, names, func() []api.Form { return m.some(depth, 2) })
	return list(append([]api.Form{name, list(definitions...)}, body...)...)
}

// eachTree calls a function with trees of made forms.
func eachTree(t *testing.T, times int, f func(m *maker, made api.Form, c api.Core)) {
	t.Helper()
	failed := 0
	for seed := range int64(times) {
		m := newMaker(seed, "V")
		made := m.form(5)
		c, e := Convert(made, nil)
		if e == api.ErrSize {
			failed++
			continue
		}
		if e != api.OK {
			t.Fatalf("seed %d: %v", seed, e)
		}
		f(m, made, c)
	}
	if failed > times/10 {
		t.Errorf("%d trees are too large", failed)
	}
}
