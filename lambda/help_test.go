package lambda_test

import (
	"math/rand"
	"slices"
	"strconv"
	"strings"
	"testing"

	"commonform/api"
	"commonform/forms"
	"commonform/lambda"
	"commonform/printer"
	"commonform/reader"
)

const home = "COMMON-LISP-USER"

// read reads a form. Markers, NIL, T and some operators are symbols of COMMON-LISP.
func read(t *testing.T, text string) api.Form {
	t.Helper()
	found, at, e := reader.One(reader.Standard(home), text)
	if e != api.OK {
		t.Fatalf("%s: %v at %d", text, e, at)
	}
	return move(found.Form)
}

func move(f api.Form) api.Form {
	isLisp := strings.HasPrefix(f.Text, "&") || slices.Contains(strings.Fields("NIL T QUOTE LIST DECLARE SPECIAL PRINC"), f.Text)
	if f.Kind == api.FormSymbol && f.Home == home && isLisp {
		f.Home = "COMMON-LISP"
	}
	var kids []api.Form
	for _, kid := range f.Kids {
		kids = append(kids, move(kid))
	}
	f.Kids = kids
	return f
}

// show returns the text of a form.
func show(f api.Form) string {
	text, e := printer.Text(f, true)
	if e != api.OK {
		return "error " + e.Error()
	}
	return text
}

// describe says what a list says: each item with its kind, and what it has beside its variable.
func describe(l lambda.List) string {
	var words []string
	for _, x := range l.Items {
		target := show(x.Var)
		if x.Pattern != nil {
			target = "(" + describe(*x.Pattern) + ")"
		}
		word := strconv.Itoa(x.Kind) + target
		if x.Kind == lambda.Key {
			word += "@" + show(x.Key)
		}
		if !forms.IsNil(x.Init) {
			word += "=" + show(x.Init)
		}
		if x.Given.Kind != 0 {
			word += "?" + show(x.Given)
		}
		words = append(words, word)
	}
	if l.Keys {
		words = append(words, "keys")
	}
	if l.Allow {
		words = append(words, "allow")
	}
	return strings.Join(words, " ")
}

// bound says what bindings there are.
func bound(l []lambda.Binding) string {
	var words []string
	for _, b := range l {
		word := show(b.Var) + "=" + show(b.Value)
		if b.Missing {
			word += "!"
		}
		words = append(words, word)
	}
	return strings.Join(words, " ")
}

func parse(t *testing.T, text string, macro bool) lambda.List {
	t.Helper()
	l, e := lambda.Parse(read(t, text), macro)
	if e != api.OK {
		t.Fatalf("Parse(%s, %v): %v", text, macro, e)
	}
	return l
}

// variable is one that a made list binds: to the value that Match tells, and to the one that a form of Bind gives it.
type variable struct {
	name, value, bound api.Form
	missing            bool
}

// maker makes lambda lists with arguments that fit.
type maker struct {
	*rand.Rand
	next  int
	known []variable // those that were bound so far
}

func number(n int) api.Form { return api.Form{Kind: api.FormInt, Text: strconv.Itoa(n)} }

func (m *maker) count() int {
	m.next++
	return m.next
}

func (m *maker) name() api.Form { return forms.Symbol(home, "V"+strconv.Itoa(m.count())) }

func (m *maker) value() api.Form { return number(1000 + m.count()) }

func marker(s string) api.Form { return forms.Symbol("COMMON-LISP", "&"+s) }

// made is a lambda list, the list of arguments that it is made for, and what it binds.
type made struct {
	list, args api.Form
	vars       []variable
}

// bind adds a variable.
func (m *maker) bind(x *made, v variable) {
	x.vars = append(x.vars, v)
	m.known = append(m.known, v)
}

// init returns an init form and its value.
func (m *maker) init() (api.Form, api.Form) {
	if len(m.known) > 0 && m.Intn(3) == 0 {
		v := m.known[m.Intn(len(m.known))]
		return v.name, v.bound
	}
	if m.Intn(4) == 0 {
		return forms.Nil(), forms.Nil()
	}
	v := m.value()
	return v, v
}

// target makes a variable, or a pattern, with a value; the value of a missing one comes from an init form.
func (m *maker) target(x *made, macro, missing bool, depth int) (target, value, init api.Form) {
	if macro && depth > 0 && m.Intn(3) == 0 {
		inner := m.list(true, true, depth-1)
		for _, v := range inner.vars {
			if missing {
				v.missing, v.value = true, forms.Nil()
			}
			x.vars = append(x.vars, v)
		}
		return inner.list, inner.args, forms.Call("QUOTE", []api.Form{inner.args})
	}
	v := variable{name: m.name(), missing: missing}
	init, v.bound = m.init()
	v.value = forms.Nil()
	if !missing {
		v.value = m.value()
		v.bound = v.value
	}
	m.bind(x, v)
	return v.name, v.value, init
}

// item returns a parameter with an init form, and maybe a variable that tells.
func (m *maker) item(x *made, target, init api.Form, isPlain, missing bool) api.Form {
	parts := []api.Form{target, init}
	if m.Intn(2) == 0 {
		told := variable{name: m.name(), value: forms.Symbol("COMMON-LISP", "T")}
		if missing {
			told.value = forms.Nil()
		}
		told.bound = told.value
		m.bind(x, told)
		parts = append(parts, told.name)
	} else if forms.IsNil(init) && isPlain {
		return target
	}
	return forms.List(parts)
}

// list makes a lambda list. The arguments end at any place behind the required ones.
func (m *maker) list(macro, inner bool, depth int) made {
	var x made
	var elements, args []api.Form
	whole, environment := -1, macro && !inner && m.Intn(3) == 0
	if macro && !inner && m.Intn(3) == 0 {
		whole = len(x.vars)
		v := m.name()
		m.bind(&x, variable{name: v})
		m.known = m.known[:len(m.known)-1]
		elements = append(elements, marker("WHOLE"), v)
	}
	here := func() {
		if environment && m.Intn(3) == 0 {
			v := m.name()
			m.bind(&x, variable{name: v, value: forms.Nil(), bound: forms.Nil(), missing: true})
			elements = append(elements, marker("ENVIRONMENT"), v)
			environment = false
		}
	}
	for range m.Intn(3) {
		here()
		target, value, _ := m.target(&x, macro, false, depth)
		elements, args = append(elements, target), append(args, value)
	}
	ended := false
	if m.Intn(2) == 0 {
		here()
		elements = append(elements, marker("OPTIONAL"))
		for range m.Intn(3) {
			here()
			ended = ended || m.Intn(3) == 0
			target, value, init := m.target(&x, macro, ended, depth)
			if !ended {
				args = append(args, value)
			}
			elements = append(elements, m.item(&x, target, init, target.Kind == api.FormSymbol, ended))
		}
	}
	m.further(&x, &elements, &args, ended, macro, depth, here)
	x.list, x.args = forms.List(elements), forms.List(args)
	if macro && m.Intn(3) == 0 {
		x.list = dotted(x.list)
	}
	if whole >= 0 {
		x.vars[whole].value, x.vars[whole].bound = x.args, x.args
	}
	return x
}

// dotted writes a last &REST as a tail, if it can.
func dotted(f api.Form) api.Form {
	l, _ := forms.Items(f)
	n := len(l)
	if n < 3 || !forms.Equal(l[n-2], marker("REST")) {
		return f
	}
	return forms.Dotted(l[:n-2], l[n-1])
}

// further makes what stands behind optional parameters.
func (m *maker) further(x *made, elements, args *[]api.Form, ended, macro bool, depth int, here func()) {
	var pairs []api.Form
	rest := -1
	if m.Intn(3) == 0 {
		here()
		v := m.name()
		rest = len(x.vars)
		m.bind(x, variable{name: v})
		m.known = m.known[:len(m.known)-1]
		*elements = append(*elements, marker([]string{"REST", "BODY"}[m.Intn(2)]), v)
		if !ended && m.Intn(2) == 0 {
			pairs = append(pairs, forms.Symbol("KEYWORD", "REST"), m.value())
		}
	}
	if m.Intn(3) == 0 {
		pairs = m.keys(x, elements, ended, macro, depth, here)
	} else if rest < 0 {
		pairs = nil
	}
	*args = append(*args, pairs...)
	if rest >= 0 {
		x.vars[rest].value, x.vars[rest].bound = forms.List(pairs), forms.List(pairs)
	}
	if m.Intn(4) == 0 {
		here()
		*elements = append(*elements, marker("AUX"))
		for range m.Intn(3) {
			here()
			init, value := m.init()
			v := variable{name: m.name(), value: forms.Nil(), bound: value, missing: true}
			m.bind(x, v)
			if forms.IsNil(init) {
				*elements = append(*elements, v.name)
			} else {
				*elements = append(*elements, forms.List([]api.Form{v.name, init}))
			}
		}
	}
	here()
}

// keys makes key parameters, and pairs in another order, with some that do not count.
func (m *maker) keys(x *made, elements *[]api.Form, ended, macro bool, depth int, here func()) []api.Form {
	var pairs [][2]api.Form
	here()
	*elements = append(*elements, marker("KEY"))
	for range m.Intn(4) {
		here()
		missing := ended || m.Intn(2) == 0
		target, value, init := m.target(x, macro, missing, depth)
		key := forms.Symbol("KEYWORD", target.Text)
		isPlain := target.Kind == api.FormSymbol && !forms.IsNil(target)
		if !isPlain || m.Intn(3) == 0 {
			key = forms.Symbol(home, "K"+strconv.Itoa(m.count()))
			target, isPlain = forms.List([]api.Form{key, target}), false
		}
		if !missing {
			pairs = append(pairs, [2]api.Form{key, value})
		}
		*elements = append(*elements, m.item(x, target, init, isPlain, missing))
	}
	allow := m.Intn(3) == 0
	if allow {
		here()
		*elements = append(*elements, marker("ALLOW-OTHER-KEYS"))
	}
	if ended {
		return nil
	}
	m.Shuffle(len(pairs), func(i, k int) { pairs[i], pairs[k] = pairs[k], pairs[i] })
	for _, p := range slices.Clone(pairs) {
		if m.Intn(3) == 0 { // only the first one counts
			pairs = append(pairs, [2]api.Form{p[0], m.value()})
		}
	}
	switch m.Intn(4) {
	case 0:
		pairs = append(pairs, [2]api.Form{forms.Symbol("KEYWORD", "ALLOW-OTHER-KEYS"), m.value()}, [2]api.Form{forms.Symbol(home, "OTHER"), m.value()})
	case 1:
		if allow {
			pairs = append(pairs, [2]api.Form{forms.Symbol(home, "OTHER"), m.value()})
		}
	case 2:
		pairs = append(pairs, [2]api.Form{forms.Symbol("KEYWORD", "ALLOW-OTHER-KEYS"), forms.Nil()})
	}
	var l []api.Form
	for _, p := range pairs {
		l = append(l, p[0], p[1])
	}
	return l
}
