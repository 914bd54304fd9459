package heap

import (
	"math/rand"
	"slices"
	"testing"

	"commonform/api"
)

// want reports an error that is not the one that is wanted.
func want(t *testing.T, what string, e, wanted api.Errno) {
	t.Helper()
	if e != wanted {
		t.Errorf("%s: %v; want %v", what, e, wanted)
	}
}

func newHeap(t *testing.T, limit, young int) *Heap {
	t.Helper()
	h, e := New(limit, young)
	if e != api.OK {
		t.Fatalf("New(%d, %d): %v", limit, young, e)
	}
	return h
}

// object makes an object with some fields.
func object(t *testing.T, h *Heap, kind int, fields ...Word) Word {
	t.Helper()
	w, e := h.New(kind, len(fields))
	if e != api.OK {
		t.Fatalf("New(%d, %d): %v", kind, len(fields), e)
	}
	for i, x := range fields {
		if e := h.Set(w, i, x); e != api.OK {
			t.Fatalf("Set(%d, %d, %d): %v", w, i, x, e)
		}
	}
	return w
}

func raw(t *testing.T, h *Heap, kind int, bytes string) Word {
	t.Helper()
	w, e := h.Raw(kind, bytes)
	if e != api.OK {
		t.Fatalf("Raw(%d, %q): %v", kind, bytes, e)
	}
	return w
}

func fix(n int64) Word {
	w, _ := Fix(n)
	return w
}

func sameFields(a, b []Field) bool { return slices.Equal(a, b) }

func sameCells(a, b []Cell) bool {
	return slices.EqualFunc(a, b, func(x, y Cell) bool {
		return x.Kind == y.Kind && x.Raw == y.Raw && x.Bytes == y.Bytes && sameFields(x.Fields, y.Fields)
	})
}

// graphOf returns the graph of the words of all roots.
func graphOf(t *testing.T, h *Heap) ([]Cell, []Field) {
	t.Helper()
	var words []Word
	for _, r := range h.Roots() {
		w, e := h.At(r)
		if e != api.OK {
			t.Fatalf("At(%d): %v", r, e)
		}
		words = append(words, w)
	}
	cells, fields, e := h.Cells(words)
	if e != api.OK {
		t.Fatalf("Cells(%v): %v", words, e)
	}
	return cells, fields
}

// badWords are no words: their tags are none, or their values.
func badWords() []Word {
	surrogate, behind := Word(0xd800)<<3|1, Word(0x110000)<<3|1
	return []Word{4, 5, 6, 7, 12, 1<<64 - 1, 10, 18, 1<<63 | 2, surrogate, Word(0xdfff)<<3 | 1, behind, 1<<64 - 7}
}

// node is an object of the model.
type node struct {
	kind   int
	raw    bool
	bytes  string
	fields []value
}

// value is a word of the model: an object, or an immediate word.
type value struct {
	object *node
	word   Word
}

// model has what a heap is to have, without places.
type model struct {
	limit, young int
	objects      []*node
	old          int // how many of them are old
	roots        []value
	live         []int // the roots that there are
	moves        int
}

func newModel(limit, young int) *model {
	m := &model{limit: limit, young: young}
	first := &node{kind: KindSymbol}
	first.fields = slices.Repeat([]value{{object: first}}, 5)
	m.objects, m.old = []*node{first}, 1
	return m
}

func (x *node) size() int {
	if x.raw {
		return 1 + (len(x.bytes)+7)/8
	}
	return 1 + len(x.fields)
}

func sizeOf(l []*node) int {
	sum := 0
	for _, x := range l {
		sum += x.size()
	}
	return sum
}

func (m *model) place(x *node) int {
	return sizeOf(m.objects[:slices.Index(m.objects, x)])
}

func (m *model) wordOf(v value) Word {
	if v.object == nil {
		return v.word
	}
	return Word(m.place(v.object))<<3 | 3
}

func (m *model) wordsOf(l []*node) []Word {
	var words []Word
	for _, x := range l {
		words = append(words, m.wordOf(value{object: x}))
	}
	return words
}

// keep lays the model anew.
func (m *model) keep(old, young []*node) {
	m.objects = slices.Concat(m.objects[:1:1], old, young)
	m.old = 1 + len(old)
	lose := func(v *value) {
		if v.object != nil && !slices.Contains(m.objects, v.object) {
			*v = value{word: Unbound}
		}
	}
	for _, x := range m.objects {
		for i := range x.fields {
			lose(&x.fields[i])
		}
	}
	for i := range m.roots {
		lose(&m.roots[i])
	}
	m.moves++
}

// chance returns a word of the model by chance.
func (m *model) chance(r *rand.Rand) value {
	if r.Intn(3) > 0 {
		return value{object: m.objects[r.Intn(len(m.objects))]}
	}
	a, _ := Char('a')
	return value{word: []Word{fix(0), fix(-1), fix(7), a, Unbound}[r.Intn(5)]}
}

// remembered returns the old objects with references to young ones.
func (m *model) remembered() []*node {
	var all []*node
	for _, x := range m.objects[:m.old] {
		if slices.ContainsFunc(x.fields, func(v value) bool { return v.object != nil && slices.Index(m.objects, v.object) >= m.old }) {
			all = append(all, x)
		}
	}
	return all
}

// compare fails if a heap is other than the model.
func (m *model) compare(t *testing.T, h *Heap) {
	t.Helper()
	used, old := sizeOf(m.objects), sizeOf(m.objects[:m.old])
	if h.Used() != used || h.Old() != old || h.Limit() != m.limit || h.Full() != (used-old > m.young) || h.Moves() != m.moves {
		t.Fatalf("Used %d, Old %d, Limit %d, Full %v, Moves %d; want %d, %d, %d, %v, %d", h.Used(), h.Old(), h.Limit(), h.Full(), h.Moves(), used, old, m.limit, used-old > m.young, m.moves)
	}
	if l := h.Objects(); !slices.Equal(l, m.wordsOf(m.objects)) {
		t.Fatalf("Objects = %v; want %v", l, m.wordsOf(m.objects))
	}
	if l := h.Remembered(); !slices.Equal(l, m.wordsOf(m.remembered())) {
		t.Fatalf("Remembered = %v; want %v", l, m.wordsOf(m.remembered()))
	}
	if l := h.Roots(); !slices.Equal(l, m.live) {
		t.Fatalf("Roots = %v; want %v", l, m.live)
	}
	for _, r := range m.live {
		if w, e := h.At(r); e != api.OK || w != m.wordOf(m.roots[r]) {
			t.Fatalf("At(%d) = %d, %v; want %d", r, w, e, m.wordOf(m.roots[r]))
		}
	}
	for _, x := range m.objects {
		m.compareObject(t, h, x)
	}
}

func (m *model) compareObject(t *testing.T, h *Heap, x *node) {
	t.Helper()
	w := m.wordOf(value{object: x})
	length := max(len(x.bytes), len(x.fields))
	if h.Kind(w) != x.kind || h.Len(w) != length || h.Place(w) != m.place(x) {
		t.Fatalf("the object %d: Kind %d, Len %d, Place %d; want %d, %d, %d", w, h.Kind(w), h.Len(w), h.Place(w), x.kind, length, m.place(x))
	}
	if x.raw {
		if s, e := h.Bytes(w); e != api.OK || s != x.bytes {
			t.Fatalf("Bytes(%d) = %q, %v; want %q", w, s, e, x.bytes)
		}
		return
	}
	for i, v := range x.fields {
		if y, e := h.Get(w, i); e != api.OK || y != m.wordOf(v) {
			t.Fatalf("Get(%d, %d) = %d, %v; want %d", w, i, y, e, m.wordOf(v))
		}
	}
}
