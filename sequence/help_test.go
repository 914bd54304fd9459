package sequence

import (
	"math/rand"
	"strconv"
	"strings"
	"testing"

	"commonform/api"
)

func node(kind int, text string, kids ...api.Form) api.Form {
	return api.Form{Kind: kind, Text: text, Kids: kids}
}

func num(n int) api.Form { return node(api.FormInt, strconv.Itoa(n)) }

func str(text string) api.Form { return node(api.FormString, text) }

func char(text string) api.Form { return node(api.FormChar, text) }

func vec(kids ...api.Form) api.Form { return node(api.FormVector, "", kids...) }

func cons(kids ...api.Form) api.Form { return node(api.FormCons, "", kids...) }

func nothing() api.Form {
	return api.Form{Kind: api.FormSymbol, Text: "NIL", Home: "COMMON-LISP"}
}

func list(kids ...api.Form) api.Form { return cons(append(kids, nothing())...) }

// ints returns the integers of a text with spaces between them.
func ints(text string) []api.Form {
	var l []api.Form
	for part := range strings.FieldsSeq(text) {
		l = append(l, node(api.FormInt, part))
	}
	return l
}

func many(n int, f api.Form) []api.Form {
	l := make([]api.Form, n)
	for i := range l {
		l[i] = f
	}
	return l
}

// all are options with which all elements are looked at.
func all() Options { return Options{End: -1, Count: -1} }

func with(change func(o *Options)) Options {
	o := all()
	change(&o)
	return o
}

// show returns a text of any tree.
func show(f api.Form) string {
	text := strconv.Itoa(f.Kind) + ":" + f.Home + ":" + f.Text
	if len(f.Kids) > 0 {
		text += "(" + showAll(f.Kids) + ")"
	}
	return text
}

func showAll(l []api.Form) string {
	var texts []string
	for _, f := range l {
		texts = append(texts, show(f))
	}
	return strings.Join(texts, " ")
}

// brief returns the texts of elements, without their kinds.
func brief(l []api.Form) string {
	var texts []string
	for _, f := range l {
		text := f.Text
		if len(f.Kids) > 0 {
			text = "(" + brief(f.Kids) + ")"
		}
		texts = append(texts, text)
	}
	return strings.Join(texts, " ")
}

// expectNone compares an error; no list comes with it.
func expectNone(t *testing.T, what string, l []api.Form, e, want api.Errno) {
	t.Helper()
	if e != want || l != nil {
		t.Errorf("%s: %d elements, %v, expected %v", what, len(l), e, want)
	}
}

// expectList compares a list with texts.
func expectList(t *testing.T, what string, l []api.Form, e api.Errno, want string) {
	t.Helper()
	if e != api.OK || brief(l) != want {
		t.Errorf("%s: %s, %v, expected %s", what, brief(l), e, want)
	}
}

// elementsOf are elements of all kinds, of which several are alike.
func elementsOf() []api.Form {
	one, a := num(1), str("a")
	return []api.Form{
		one, num(2), num(-1), num(0), node(api.FormSingle, "3f800000"), node(api.FormDouble, "3ff0000000000000"), node(api.FormSingle, "80000000"), node(api.FormDouble, "0000000000000000"),
		node(api.FormRatio, "1/2"), node(api.FormSingle, "3f000000"), node(api.FormRatio, "2/4"), node(api.FormSingle, "7f800000"), node(api.FormInt, "01"),
		node(api.FormComplex, "", one, num(2)), node(api.FormComplex, "", node(api.FormSingle, "3f800000"), node(api.FormSingle, "40000000")), node(api.FormComplex, "", node(api.FormSingle, "3f800000"), node(api.FormSingle, "00000000")), node(api.FormComplex, "", one, num(0)),
		a, str("A"), str("b"), str("ab"), str("aB"), str(""), str("é"), str("É"), char("a"), char("A"), char("b"), char("é"), char("["), char("{"), {Kind: api.FormChar, Text: "a", Home: "X"},
		{Kind: api.FormSymbol, Text: "A", Home: "P"}, {Kind: api.FormSymbol, Text: "a", Home: "P"}, {Kind: api.FormSymbol, Text: "A", Home: "Q"}, {Kind: api.FormSymbol, Text: "AP"}, nothing(),
		list(one, a), list(node(api.FormSingle, "3f800000"), str("A")), list(one), list(one, a, num(3)), cons(one, a), cons(cons(one, a), a), cons(one, cons(num(5), num(6))), cons(one), cons(),
		{Kind: api.FormCons, Text: "x", Kids: []api.Form{one, a}}, vec(one, a), vec(node(api.FormDouble, "3ff0000000000000"), str("A")), vec(), vec(vec()), vec(a),
		node(api.FormBits, "1"), node(api.FormBits, "10"), node(api.FormArray, "", one), node(api.FormArray, "1 1", one), node(api.FormArray, "1 1", node(api.FormSingle, "3f800000")), node(api.FormLabel, "1", a), node(api.FormRef, "1"), {}, {Kind: 99, Text: "1"}, {Kind: api.FormInt, Text: "1", Home: "P"}, {Kind: api.FormInt, Text: "1", Kids: []api.Form{one}},
	}
}

// some makes a list by chance, of few elements that are often alike.
func some(r *rand.Rand, pool []api.Form) []api.Form {
	var l []api.Form
	for range r.Intn(8) {
		l = append(l, pool[r.Intn(len(pool))])
	}
	return l
}
