package lib

import (
	"math/rand"
	"slices"
	"strings"
	"testing"

	"commonform/api"
	"commonform/forms"
	"commonform/heap"
	"commonform/printer"
	"commonform/reader"
)

// tester has a world for tests.
type tester struct {
	*World
	t *testing.T
}

func newTester(t *testing.T, limit int) tester {
	t.Helper()
	w, e := New(limit, limit)
	if e != api.OK {
		t.Fatalf("New(%d): %v", limit, e)
	}
	return tester{World: w, t: t}
}

// want reports an error that is not the one that is wanted.
func (w tester) want(what string, e, wanted api.Errno) {
	w.t.Helper()
	if e != wanted {
		w.t.Errorf("%s: %v; want %v", what, e, wanted)
	}
}

// read reads a form, as READ-FROM-STRING does.
func read(t *testing.T, text string) api.Form {
	t.Helper()
	found, at, e := reader.One(reader.Standard(user), text)
	if e != api.OK {
		t.Fatalf("%s: %v at %d", text, e, at)
	}
	return found.Form
}

func (w tester) build(text string) heap.Word {
	w.t.Helper()
	x, e := w.Build(read(w.t, text))
	if e != api.OK {
		w.t.Fatalf("Build(%s): %v", text, e)
	}
	return x
}

// show returns the text of an object.
func (w tester) show(x heap.Word) string {
	w.t.Helper()
	f, e := w.Show(x)
	if e != api.OK {
		return "error " + e.Error()
	}
	text, e := printer.Text(f, true)
	if e != api.OK {
		return "error " + e.Error()
	}
	return text
}

func (w tester) shows(l []heap.Word) string {
	w.t.Helper()
	var words []string
	for _, x := range l {
		words = append(words, w.show(x))
	}
	return strings.Join(words, " ")
}

// told returns what an answer tells.
func (w tester) told(a Answer) string {
	w.t.Helper()
	switch a.Kind {
	case AnswerValues:
		return w.shows(a.Values)
	case AnswerFault:
		return strings.TrimSpace("!" + a.Fault.Type + " " + w.shows(a.Fault.Data))
	case AnswerNext:
		return "next " + w.show(a.Function) + " " + w.shows(a.Values)
	}
	return "limit " + a.Code.Error()
}

func (w tester) symbol(name string) heap.Word {
	w.t.Helper()
	x, e := w.Symbol(lisp, name)
	if e != api.OK {
		w.t.Fatalf("Symbol(%q): %v", name, e)
	}
	return x
}

func (w tester) call(name string, args ...heap.Word) Answer {
	w.t.Helper()
	return w.Call(w.symbol(name), args)
}

// perform calls a function with arguments that are not evaluated, as in (CAR (1 . 2)).
func (w tester) perform(text string) string {
	w.t.Helper()
	all, ok := w.elements(w.build(text))
	if !ok {
		w.t.Fatalf("%s is no call", text)
	}
	return w.told(w.Call(all[0], all[1:]))
}

// check compares what calls tell with what is wanted, each in a new world.
func check(t *testing.T, wanted map[string]string) {
	t.Helper()
	for text, want := range wanted {
		if got := newTester(t, 20000).perform(text); got != want {
			t.Errorf("%s: %s; want %s", text, got, want)
		}
	}
}

// object makes an object with fields.
func (w tester) object(kind int, fields ...heap.Word) heap.Word {
	w.t.Helper()
	x, e := w.Heap().New(kind, len(fields))
	if e != api.OK {
		w.t.Fatalf("New(%d): %v", kind, e)
	}
	for i, field := range fields {
		w.want("Set", w.Heap().Set(x, i, field), api.OK)
	}
	return x
}

// circle makes a list of so many elements that has no end.
func (w tester) circle(n int) heap.Word {
	w.t.Helper()
	var all []heap.Word
	for i := range n {
		all = append(all, fixnum(i))
	}
	first := w.list(all, heap.Nil)
	last := first
	for w.get(last, 1) != heap.Nil {
		last = w.get(last, 1)
	}
	w.Heap().Set(last, 1, first)
	return first
}

// someForm makes a random form, with labels for what is shared.
type someForm struct {
	*rand.Rand
	labels int
	known  []string
	leaves int
}

func (m *someForm) atom() api.Form {
	m.leaves++
	all := []api.Form{
		forms.Nil(), forms.Symbol(lisp, "CAR"), forms.Symbol(user, "X"), forms.Symbol(user, "New One"), forms.Symbol(keyword, "K"), forms.Symbol(lisp, "T"),
		{Kind: api.FormInt, Text: "0"}, {Kind: api.FormInt, Text: "-1152921504606846976"}, {Kind: api.FormInt, Text: "1152921504606846976"}, {Kind: api.FormRatio, Text: "-1/2"}, {Kind: api.FormSingle, Text: "3f800000"}, {Kind: api.FormDouble, Text: "3ff0000000000000"},
		{Kind: api.FormComplex, Kids: []api.Form{{Kind: api.FormInt, Text: "1"}, {Kind: api.FormRatio, Text: "1/2"}}}, {Kind: api.FormChar, Text: "é"}, {Kind: api.FormString, Text: "a \"b\""}, {Kind: api.FormString}, {Kind: api.FormBits, Text: "101"}, {Kind: api.FormBits},
		{Kind: api.FormArray, Text: "0 5"}, {Kind: api.FormVector},
	}
	return all[m.Intn(len(all))]
}

func (m *someForm) form(depth int) api.Form {
	if len(m.known) > 0 && m.Intn(5) == 0 {
		return api.Form{Kind: api.FormRef, Text: m.known[m.Intn(len(m.known))]}
	}
	if m.Intn(4) == 0 && depth > 0 {
		label := string(fixnumText(m.labels))
		m.labels++
		m.known = append(m.known, label)
		if f := m.body(depth); f.Kind != api.FormRef && f.Kind != api.FormLabel {
			return api.Form{Kind: api.FormLabel, Text: label, Kids: []api.Form{f}}
		}
	}
	return m.body(depth)
}

func fixnumText(n int) string { return integerForm(int64(n)).Text }

func (m *someForm) body(depth int) api.Form {
	if depth == 0 || m.Intn(3) == 0 {
		return m.atom()
	}
	var kids []api.Form
	for range 1 + m.Intn(3) {
		kids = append(kids, m.form(depth-1))
	}
	switch m.Intn(5) {
	case 0:
		return api.Form{Kind: api.FormVector, Kids: kids}
	case 1:
		return api.Form{Kind: api.FormArray, Text: fixnumText(len(kids)) + " 1", Kids: kids}
	}
	tail := forms.Nil()
	if m.Intn(3) == 0 {
		tail = m.form(depth - 1)
	}
	if tail.Kind == api.FormCons {
		return api.Form{Kind: api.FormCons, Kids: append(kids, tail.Kids...)}
	}
	return api.Form{Kind: api.FormCons, Kids: append(kids, tail)}
}

// eachForm calls a function with random right forms.
func eachForm(times int, f func(r *rand.Rand, made api.Form)) {
	for seed := range int64(times) {
		r := rand.New(rand.NewSource(seed))
		m := &someForm{Rand: r}
		made := m.form(4)
		if forms.Check(made) == api.OK {
			f(r, made)
		}
	}
}

// collect keeps the objects that are met from roots, in another order, partly as old ones.
func (w tester) collect(r *rand.Rand) {
	w.t.Helper()
	h := w.Heap()
	met := map[heap.Word]bool{heap.Nil: true}
	var all, queue []heap.Word
	meet := func(x heap.Word) {
		if x.IsRef() && !met[x] {
			met[x] = true
			all, queue = append(all, x), append(queue, x)
		}
	}
	for _, root := range h.Roots() {
		x, _ := h.At(root)
		meet(x)
	}
	queue = append(queue, heap.Nil)
	for len(queue) > 0 {
		x := queue[0]
		queue = queue[1:]
		if w.hasFields(x) {
			for _, field := range w.fields(x) {
				meet(field)
			}
		}
	}
	r.Shuffle(len(all), func(i, k int) { all[i], all[k] = all[k], all[i] })
	half := r.Intn(len(all) + 1)
	w.want("Keep", h.Keep(all[:half], all[half:]), api.OK)
}

// rooted keeps words while a function is performed that may move them.
func (w tester) rooted(l []heap.Word, f func()) []heap.Word {
	var roots []int
	for _, x := range l {
		roots = append(roots, w.Heap().Root(x))
	}
	f()
	var moved []heap.Word
	for _, root := range roots {
		x, _ := w.Heap().At(root)
		moved = append(moved, x)
		w.Heap().Drop(root)
	}
	return moved
}

func sorted(l []string) []string {
	l = slices.Clone(l)
	slices.Sort(l)
	return l
}
