package table

import (
	"math/rand"
	"slices"
	"strconv"
	"testing"
	"unicode/utf8"

	"commonform/api"
	"commonform/heap"
	"commonform/number"
)

// want reports an error that is not the one that is wanted.
func want(t *testing.T, what string, e, wanted api.Errno) {
	t.Helper()
	if e != wanted {
		t.Errorf("%s: %v; want %v", what, e, wanted)
	}
}

// maker makes objects of a heap.
type maker struct {
	*heap.Heap
	t *testing.T
}

func newMaker(t *testing.T, limit int) maker {
	t.Helper()
	h, e := heap.New(limit, limit)
	if e != api.OK {
		t.Fatalf("New(%d): %v", limit, e)
	}
	return maker{Heap: h, t: t}
}

func (m maker) object(kind int, fields ...heap.Word) heap.Word {
	m.t.Helper()
	w, e := m.New(kind, len(fields))
	if e != api.OK {
		m.t.Fatalf("New(%d, %d): %v", kind, len(fields), e)
	}
	for i, x := range fields {
		want(m.t, "Set", m.Set(w, i, x), api.OK)
	}
	return w
}

func (m maker) raw(kind int, bytes string) heap.Word {
	m.t.Helper()
	w, e := m.Raw(kind, bytes)
	if e != api.OK {
		m.t.Fatalf("Raw(%d, %q): %v", kind, bytes, e)
	}
	return w
}

func (m maker) cons(a, d heap.Word) heap.Word { return m.object(heap.KindCons, a, d) }

func (m maker) vector(l ...heap.Word) heap.Word { return m.object(heap.KindVector, l...) }

func (m maker) list(l ...heap.Word) heap.Word {
	made := heap.Nil
	for _, x := range slices.Backward(l) {
		made = m.cons(x, made)
	}
	return made
}

func (m maker) text(s string) heap.Word { return m.raw(heap.KindString, s) }

func (m maker) get(w heap.Word, i int) heap.Word {
	m.t.Helper()
	x, e := m.Get(w, i)
	want(m.t, "Get", e, api.OK)
	return x
}

// made returns a table.
func (m maker) table(test int, weak bool) heap.Word {
	m.t.Helper()
	w, e := New(m.Heap, test, weak)
	if e != api.OK {
		m.t.Fatalf("New(%d, %v): %v", test, weak, e)
	}
	return w
}

// lists fails if a table has other keys and values, one behind the other, also by Get and Count.
func (m maker) lists(w heap.Word, wanted ...heap.Word) {
	m.t.Helper()
	keys, e := Keys(m.Heap, w)
	want(m.t, "Keys", e, api.OK)
	values, e := Values(m.Heap, w)
	want(m.t, "Values", e, api.OK)
	var got []heap.Word
	for i := range min(len(keys), len(values)) {
		got = append(got, keys[i], values[i])
	}
	n, e := Count(m.Heap, w)
	if e != api.OK || !slices.Equal(got, wanted) || 2*len(keys) != len(wanted) || 2*len(values) != len(wanted) || 2*n != len(wanted) {
		m.t.Fatalf("Keys %v, Values %v, Count %d, %v; want %v", keys, values, n, e, wanted)
	}
	for i := 0; i < len(wanted); i += 2 {
		if x, there, e := Get(m.Heap, w, wanted[i]); x != wanted[i+1] || !there || e != api.OK {
			m.t.Fatalf("Get(%d) = %d, %v, %v; want %d", wanted[i], x, there, e, wanted[i+1])
		}
	}
}

func fix(n int) heap.Word {
	w, _ := heap.Fix(int64(n))
	return w
}

func char(c rune) heap.Word {
	w, _ := heap.Char(c)
	return w
}

// relations are the exported ones, by the numbers of the tests.
func relations() map[int]func(*heap.Heap, heap.Word, heap.Word) (bool, api.Errno) {
	return map[int]func(*heap.Heap, heap.Word, heap.Word) (bool, api.Errno){EqlTest: Eql, EqualTest: Equal, EqualpTest: Equalp}
}

// isRelated reports whether two words are the same by a test.
func isRelated(t *testing.T, h *heap.Heap, test int, a, b heap.Word) bool {
	t.Helper()
	if test == Eq {
		return a == b
	}
	is, e := relations()[test](h, a, b)
	if e != api.OK {
		t.Fatalf("the relation %d of %d and %d: %v", test, a, b, e)
	}
	return is
}

// shape is what the chapter says of a word: what must be equal at once, and its parts.
type shape struct {
	own   string // words with different ones are not the same; "" if nothing but the word itself is
	parts []heap.Word
}

// shapeOf tells the shape of a word by a test, from the text of the chapter. The numbers of Equalp are left out.
func shapeOf(h *heap.Heap, test int, w heap.Word) shape {
	kind := h.Kind(w)
	bytes, e := h.Bytes(w)
	isRaw, isFielded := e == api.OK, e == heap.ErrRaw
	var fields []heap.Word
	for i := range h.Len(w) {
		x, _ := h.Get(w, i)
		fields = append(fields, x)
	}
	if f, ok := numberOf(h, w); ok {
		own := "number " + strconv.Itoa(f.Kind) + f.Text
		for _, kid := range f.Kids {
			own += " " + strconv.Itoa(kid.Kind) + kid.Text
		}
		return shape{own: own}
	}
	c, isChar := w.Character()
	switch {
	case test == EqlTest:
	case kind == heap.KindCons && isFielded && len(fields) == 2:
		return shape{own: "cons", parts: fields}
	case test == EqualTest && isRaw && kind == heap.KindString:
		return shape{own: "string " + bytes}
	case test == EqualTest && isRaw && kind == heap.KindBits:
		return shape{own: "bits " + bytes}
	case test == EqualpTest && isChar:
		if c >= 'a' && c <= 'z' {
			c -= 32
		}
		return shape{own: "char " + string(c)}
	case test == EqualpTest && isRaw && kind == heap.KindString:
		var l []heap.Word
		for len(bytes) > 0 {
			c, n := utf8.DecodeRuneInString(bytes)
			l, bytes = append(l, char(c)), bytes[n:]
		}
		return arrayShape([]heap.Word{fix(len(l))}, l)
	case test == EqualpTest && isRaw && kind == heap.KindBits:
		var l []heap.Word
		for i := range len(bytes) {
			bit := 0
			if bytes[i] == 0x31 {
				bit = 1
			}
			l = append(l, fix(bit))
		}
		return arrayShape([]heap.Word{fix(len(l))}, l)
	case test == EqualpTest && kind == heap.KindVector && isFielded:
		return arrayShape([]heap.Word{fix(len(fields))}, fields)
	case test == EqualpTest && kind == heap.KindArray && isFielded && len(fields) == 2:
		if l, ok := vectors(h, fields); ok {
			return arrayShape(l[0], l[1])
		}
	}
	return shape{}
}

// vectors returns the fields of vectors.
func vectors(h *heap.Heap, words []heap.Word) ([][]heap.Word, bool) {
	var all [][]heap.Word
	for _, w := range words {
		if _, e := h.Bytes(w); h.Kind(w) != heap.KindVector || e != heap.ErrRaw {
			return nil, false
		}
		l := []heap.Word{}
		for i := range h.Len(w) {
			x, _ := h.Get(w, i)
			l = append(l, x)
		}
		all = append(all, l)
	}
	return all, true
}

func arrayShape(dims, elements []heap.Word) shape {
	own := "array " + strconv.Itoa(len(elements)) + ":"
	for _, d := range dims {
		own += strconv.FormatUint(uint64(d), 10) + " "
	}
	return shape{own: own, parts: elements}
}

// numberOf returns the form of a number.
func numberOf(h *heap.Heap, w heap.Word) (api.Form, bool) {
	if n, ok := w.Fixnum(); ok {
		return api.Form{Kind: api.FormInt, Text: strconv.FormatInt(n, 10)}, true
	}
	f := api.Form{Kind: h.Kind(w)}
	text, e := h.Bytes(w)
	switch {
	case f.Kind == heap.KindComplex && e == heap.ErrRaw && h.Len(w) == 2:
		for i := range 2 {
			x, _ := h.Get(w, i)
			if h.Kind(x) == heap.KindComplex {
				return api.Form{}, false
			}
			kid, ok := numberOf(h, x)
			if !ok {
				return api.Form{}, false
			}
			f.Kids = append(f.Kids, kid)
		}
	case f.Kind >= heap.KindInt && f.Kind <= heap.KindDouble && e == api.OK:
		f.Text = text
	default:
		return api.Form{}, false
	}
	return f, number.Check(f) == api.OK
}

// pairs is a relation.
type pairs map[[2]heap.Word]bool

// greatest returns the greatest relation by a test of some words and all that is met from them: first all pairs are in it, and as long as some must not be, they are taken out.
func greatest(h *heap.Heap, test int, words []heap.Word) pairs {
	shapes := map[heap.Word]shape{}
	for todo := slices.Clone(words); len(todo) > 0; {
		w := todo[0]
		todo = todo[1:]
		if _, there := shapes[w]; !there {
			shapes[w] = shapeOf(h, test, w)
			todo = append(todo, shapes[w].parts...)
		}
	}
	all := pairs{}
	for a := range shapes {
		for b := range shapes {
			all[[2]heap.Word{a, b}] = true
		}
	}
	for changed := true; changed; {
		changed = false
		for p, is := range all {
			if is && !stays(h, test, all, p, shapes[p[0]], shapes[p[1]]) {
				all[p] = false
				changed = true
			}
		}
	}
	return all
}

// stays reports whether a pair may be in the relation, if all is in it that it says.
func stays(h *heap.Heap, test int, all pairs, p [2]heap.Word, x, y shape) bool {
	if p[0] == p[1] {
		return true
	}
	if test == EqualpTest {
		f, isF := numberOf(h, p[0])
		g, isG := numberOf(h, p[1])
		if isF && isG {
			same, _ := number.Equals(f, g)
			return same
		}
	}
	if x.own == "" || x.own != y.own {
		return false
	}
	for i := range x.parts {
		if !all[[2]heap.Word{x.parts[i], y.parts[i]}] {
			return false
		}
	}
	return true
}

// some makes objects by chance, and some circles of them, of which many are the same by some test.
func (m maker) some(r *rand.Rand, count int) []heap.Word {
	m.t.Helper()
	all := []heap.Word{heap.Nil, heap.Unbound, fix(0), fix(1), fix(2), char('a'), char('A'), char('['), char('{'), char(65533)}
	word := func() heap.Word { return all[r.Intn(len(all))] }
	texts := map[int][]string{
		heap.KindInt:     {"1", "2", "01", "x", ""},
		heap.KindRatio:   {"1/2", "2/4", "2"},
		heap.KindSingle:  {"3f800000", "40000000", "00000000", "80000000", "3f000000", "zz", "7f800000"},
		heap.KindDouble:  {"3ff0000000000000", "8000000000000000", "3fe0000000000000"},
		heap.KindComplex: {"", "1"},
		heap.KindString:  {"", "a", "A", "1", "\xff", "\ufffd", "a\xffA", "aa"},
		heap.KindBits:    {"", "0", "1", "2", "01", "10"},
		heap.KindCons:    {""},
		heap.KindVector:  {"", "a"},
	}
	lengths := map[int]int{heap.KindCons: 2, heap.KindComplex: 2, heap.KindArray: 2, heap.KindVector: r.Intn(3), heap.KindString: 1, heap.KindSymbol: 2}
	kinds := []int{heap.KindCons, heap.KindCons, heap.KindVector, heap.KindVector, heap.KindArray, heap.KindComplex, heap.KindComplex, heap.KindString, heap.KindSymbol}
	for range count {
		if r.Intn(2) == 0 {
			kind := heap.KindInt + r.Intn(heap.KindVector-heap.KindInt+1)
			if l := texts[kind]; len(l) > 0 {
				all = append(all, m.raw(kind, l[r.Intn(len(l))]))
			}
			continue
		}
		kind := kinds[r.Intn(len(kinds))]
		length := lengths[kind]
		if r.Intn(8) == 0 {
			length = r.Intn(4)
		}
		w := m.object(kind, slices.Repeat([]heap.Word{heap.Nil}, length)...)
		for i := range length {
			m.Set(w, i, word())
		}
		all = append(all, w)
		if kind == heap.KindVector {
			all = append(all, m.object(heap.KindArray, m.vector(fix(length)), w))
		}
	}
	for range count / 4 {
		if w := word(); w != heap.Nil && m.Len(w) > 0 {
			m.Set(w, m.Len(w)-1, word())
		}
	}
	return all
}

// move lays the heap anew in an order by chance, and returns where its objects are now; those that are not kept are Unbound.
func (m maker) move(r *rand.Rand, kept []heap.Word) func(heap.Word) heap.Word {
	m.t.Helper()
	kept = slices.DeleteFunc(slices.Clone(kept), func(w heap.Word) bool { return w == heap.Nil })
	r.Shuffle(len(kept), func(i, k int) { kept[i], kept[k] = kept[k], kept[i] })
	old := r.Intn(1 + len(kept))
	want(m.t, "Keep", m.Keep(kept[:old], kept[old:]), api.OK)
	now := m.Objects()[1:]
	return func(w heap.Word) heap.Word {
		if w == heap.Nil || !w.IsRef() {
			return w
		}
		if i := slices.Index(kept, w); i >= 0 {
			return now[i]
		}
		return heap.Unbound
	}
}
