package forms

import (
	"math/rand"
	"strconv"
	"strings"
	"testing"

	"commonform/api"
)

func node(kind int, text string, kids ...api.Form) api.Form {
	return api.Form{Kind: kind, Text: text, Kids: kids}
}

func sym(name string) api.Form { return Symbol("USER", name) }

func num(text string) api.Form { return node(api.FormInt, text) }

func str(text string) api.Form { return node(api.FormString, text) }

func cons(kids ...api.Form) api.Form { return node(api.FormCons, "", kids...) }

func vec(kids ...api.Form) api.Form { return node(api.FormVector, "", kids...) }

func lab(n string, kid api.Form) api.Form { return node(api.FormLabel, n, kid) }

func ref(n string) api.Form { return node(api.FormRef, n) }

func complexOf(re, im api.Form) api.Form { return node(api.FormComplex, "", re, im) }

// nested returns a tree of a depth, each node of which has one Kid.
func nested(depth int) api.Form {
	f := vec()
	for range depth - 1 {
		f = vec(f)
	}
	return f
}

// many returns n equal forms.
func many(n int, f api.Form) []api.Form {
	var l []api.Form
	for range n {
		l = append(l, f)
	}
	return l
}

// show returns a short text of any tree, for failures and for comparing.
func show(f api.Form) string {
	var b strings.Builder
	b.WriteString(strconv.Itoa(f.Kind) + ":" + f.Home + ":" + f.Text)
	if len(f.Kids) > 0 {
		b.WriteString("(")
		for i, kid := range f.Kids {
			if i > 0 {
				b.WriteString(" ")
			}
			b.WriteString(show(kid))
		}
		b.WriteString(")")
	}
	return b.String()
}

func showAll(l []api.Form) string { return show(vec(l...)) }

// maker makes right forms by chance.
type maker struct {
	r      *rand.Rand
	labels int
}

func (m *maker) atom() api.Form {
	switch m.r.Intn(7) {
	case 0:
		return num(strconv.Itoa(m.r.Intn(3)))
	case 1:
		return Nil()
	case 2:
		return node(api.FormChar, "é")
	case 3:
		return str([]string{"x", "y"}[m.r.Intn(2)])
	case 4:
		return node(api.FormBits, "01")
	case 5:
		return complexOf(num("1"), num("2"))
	}
	return sym([]string{"A", "B"}[m.r.Intn(2)])
}

// form makes a form with labels; references are to labels to which the walk has come.
func (m *maker) form(depth int) api.Form {
	if m.labels > 0 && m.r.Intn(5) == 0 {
		return ref(strconv.Itoa(m.number(m.r.Intn(m.labels))))
	}
	if m.r.Intn(4) == 0 {
		n := m.number(m.labels)
		m.labels++
		for {
			saved := m.labels
			kid := m.plain(depth - 1)
			if kid.Kind != api.FormRef {
				return lab(strconv.Itoa(n), kid)
			}
			m.labels = saved
		}
	}
	return m.plain(depth)
}

// number spreads the numbers of labels, so that they are not in order.
func (m *maker) number(i int) int { return (i*7 + 5) % 1000 }

func (m *maker) plain(depth int) api.Form {
	if depth <= 0 {
		return m.atom()
	}
	switch m.r.Intn(4) {
	case 0:
		return m.atom()
	case 1:
		var kids []api.Form
		for range m.r.Intn(3) {
			kids = append(kids, m.form(depth-1))
		}
		return vec(kids...)
	case 2:
		return node(api.FormArray, "1 2", m.form(depth-1), m.form(depth-1))
	}
	var kids []api.Form
	for range 1 + m.r.Intn(3) {
		kids = append(kids, m.form(depth-1))
	}
	for {
		saved := m.labels
		tail := m.form(depth - 1)
		if tail.Kind != api.FormCons {
			return cons(append(kids, tail)...)
		}
		m.labels = saved
	}
}

// eachForm calls a test with many forms that are right.
func eachForm(t *testing.T, test func(f api.Form)) {
	t.Helper()
	r := rand.New(rand.NewSource(1))
	for range 2000 {
		m := maker{r: r}
		f := m.form(5)
		if e := Check(f); e != api.OK {
			t.Fatalf("the test made a wrong form %s: %v", show(f), e)
		}
		test(f)
	}
}

// count returns the number of nodes of a kind.
func count(f api.Form, kind int) int {
	n := 0
	for _, node := range walk(f) {
		if node.Kind == kind {
			n++
		}
	}
	return n
}
