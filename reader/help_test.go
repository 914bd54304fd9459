package reader

import (
	"math/rand"
	"strconv"
	"strings"
	"testing"

	"commonform/api"
	"commonform/forms"
	"commonform/notation"
	"commonform/token"
)

func node(kind int, text string, kids ...api.Form) api.Form {
	return api.Form{Kind: kind, Text: text, Kids: kids}
}

func sym(name string) api.Form { return forms.Symbol("P", name) }

func key(name string) api.Form { return forms.Symbol("KEYWORD", name) }

func num(text string) api.Form { return node(api.FormInt, text) }

func str(text string) api.Form { return node(api.FormString, text) }

func char(text string) api.Form { return node(api.FormChar, text) }

func vec(kids ...api.Form) api.Form { return node(api.FormVector, "", kids...) }

func cons(kids ...api.Form) api.Form { return node(api.FormCons, "", kids...) }

func list(kids ...api.Form) api.Form { return forms.List(kids) }

func lab(n string, kid api.Form) api.Form { return node(api.FormLabel, n, kid) }

func ref(n string) api.Form { return node(api.FormRef, n) }

// call returns the call of a function of COMMON-LISP.
func call(name string, kids ...api.Form) api.Form { return forms.Call(name, kids) }

// back returns a list of a symbol of the reader and more.
func back(name string, kids ...api.Form) api.Form {
	return list(append([]api.Form{forms.Symbol(notation.Home, name)}, kids...)...)
}

func many(n int, f api.Form) []api.Form {
	var l []api.Form
	for range n {
		l = append(l, f)
	}
	return l
}

// show returns a short text of any tree.
func show(f api.Form) string {
	s := strconv.Itoa(f.Kind) + ":" + f.Home + ":" + f.Text
	if len(f.Kids) == 0 {
		return s
	}
	var kids []string
	for _, kid := range f.Kids {
		kids = append(kids, show(kid))
	}
	return s + "(" + strings.Join(kids, " ") + ")"
}

// usual are the options of most tests.
func usual() Options {
	o := Standard("P")
	o.Features = []string{"SMALL", "BIG"}
	return o
}

// with returns usual options in which characters have other kinds, given in turn.
func with(t *testing.T, pairs ...rune) Options {
	t.Helper()
	o := usual()
	for i := 0; i < len(pairs); i += 2 {
		x, e := token.Set(o.Table, pairs[i], int(pairs[i+1]))
		if e != api.OK {
			t.Fatalf("Set(%q): %v", pairs[i], e)
		}
		o.Table = x
	}
	return o
}

func isEmpty(r Result) bool {
	return r.Form.Kind == 0 && r.Form.Text == "" && len(r.Form.Kids) == 0 && len(r.References) == 0 && r.From == 0 && r.To == 0
}

// writer makes texts of forms by chance, as parts between which blanks may stand.
type writer struct {
	*rand.Rand
	parts  []string
	level  int // of backquotes
	labels int
}

func (w *writer) add(parts ...string) { w.parts = append(w.parts, parts...) }

func (w *writer) atom() {
	l := []string{"a", "B", "q::r", "q:s", ":k", "12", "-3/4", "1.5", "2d0", `"a ; b"`, `"\""`, `#\a`, `#\Space`, `#\(`, "#*101", "#3*1", "#:g", "#xff", "#b-101/11", "#3r12", "#c(1 2)", "|x y|", `a\ b`, "nil", "()"}
	w.add(l[w.Intn(len(l))])
}

func (w *writer) form(depth int) {
	if depth == 0 {
		w.atom()
		return
	}
	switch w.Intn(14) {
	case 0, 1, 2:
		w.list("(", depth)
	case 3:
		w.list("(", depth)
		w.parts = w.parts[:len(w.parts)-1]
		w.add("a", ".")
		w.form(depth - 1)
		w.add(")")
	case 4:
		w.list("#(", depth)
	case 5:
		w.add("'")
		w.form(depth - 1)
	case 6:
		w.add("#'")
		w.form(depth - 1)
	case 7:
		w.level++
		w.add("`")
		w.form(depth - 1)
		w.level--
	case 8:
		w.comma(depth)
	case 9:
		w.feature(depth)
	case 10:
		w.labelled(depth)
	case 11:
		w.add("#2a", "(", "(", "1", "#\\a", ")", "\"bc\"", ")")
	default:
		w.atom()
	}
}

func (w *writer) list(open string, depth int) {
	w.add(open)
	for range w.Intn(4) {
		w.form(depth - 1)
	}
	w.add(")")
}

func (w *writer) comma(depth int) {
	if w.level == 0 {
		w.atom()
		return
	}
	w.level--
	w.add([]string{",", ",@"}[w.Intn(2)])
	w.form(depth - 1)
	w.level++
}

func (w *writer) feature(depth int) {
	if w.Intn(2) == 0 {
		l := [][]string{{"#-", "small"}, {"#+", "(", "and", "(", "not", "huge", ")", "none", ")"}}
		w.add(l[w.Intn(len(l))]...)
		w.form(depth - 1) // is left out
	}
	l := [][]string{nil, {"#+", "small"}, {"#-", "huge"}, {"#+", "(", "or", "huge", "big", ")"}}
	w.add(l[w.Intn(len(l))]...)
	w.form(depth - 1)
}

// labelled makes a label around a list, and a reference to it.
func (w *writer) labelled(depth int) {
	n := strconv.Itoa(w.labels)
	w.labels++
	w.add("(", "#"+n+"=")
	w.list("(", depth)
	w.add("#"+n+"#", ")")
}

// eachText calls a test with the parts of many texts of a form.
func eachText(t *testing.T, test func(r *rand.Rand, parts []string)) {
	t.Helper()
	r := rand.New(rand.NewSource(1))
	for range 3000 {
		w := writer{Rand: r}
		w.form(4)
		if s := strings.Join(w.parts, " "); len(s) < 1500 {
			test(r, w.parts)
		}
	}
}

// blank makes white characters and comments by chance. The first one ends a token.
func blank(r *rand.Rand) string {
	l := []string{" ", "\n", "\t\f\r", ";x(\n", "; #|\n", "#|a|#", "#|#||#a#|;|#\n|#"}
	s := l[r.Intn(5)]
	for r.Intn(3) == 0 {
		s += l[r.Intn(len(l))]
	}
	return s
}

// spread puts blanks between parts and around them.
func spread(r *rand.Rand, parts []string) string {
	var b strings.Builder
	for _, part := range parts {
		b.WriteString(blank(r) + part)
	}
	b.WriteString(blank(r))
	return b.String()
}

// names returns references without their places.
func names(l []Reference) []Reference {
	var all []Reference
	for _, x := range l {
		x.At = 0
		all = append(all, x)
	}
	return all
}
