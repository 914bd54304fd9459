package heap

import (
	"math/rand"
	"slices"
	"strconv"
	"testing"

	"commonform/api"
)

// P15.1, P15.3, P15.5: whatever is done with a heap, it has what the model has.
func TestLikeTheModel(t *testing.T) {
	for seed := range int64(300) {
		r := rand.New(rand.NewSource(seed))
		limit := 64 + r.Intn(200)
		young := 1 + r.Intn(limit)
		h, m := newHeap(t, limit, young), newModel(limit, young)
		for range 80 {
			step(t, r, h, m, allThings)
			m.compare(t, h)
		}
	}
}

const (
	allThings  = 12
	allButKeep = 11
)

// step does one of so many things by chance.
func step(t *testing.T, r *rand.Rand, h *Heap, m *model, things int) {
	t.Helper()
	switch r.Intn(things) {
	case 0, 1, 2:
		make1(t, r, h, m)
	case 3, 4, 5, 6:
		x := m.objects[r.Intn(len(m.objects))]
		if len(x.fields) == 0 {
			return
		}
		i, v := r.Intn(len(x.fields)), m.chance(r)
		want(t, "Set", h.Set(m.wordOf(value{object: x}), i, m.wordOf(v)), api.OK)
		x.fields[i] = v
	case 7:
		v := m.chance(r)
		if n := h.Root(m.wordOf(v)); n != len(m.roots) {
			t.Fatalf("Root = %d; want %d", n, len(m.roots))
		}
		m.live = append(m.live, len(m.roots))
		m.roots = append(m.roots, v)
	case 8:
		if len(m.live) == 0 {
			return
		}
		n, v := m.live[r.Intn(len(m.live))], m.chance(r)
		want(t, "Put", h.Put(n, m.wordOf(v)), api.OK)
		m.roots[n] = v
	case 9:
		if len(m.live) == 0 || r.Intn(3) > 0 {
			return
		}
		i := r.Intn(len(m.live))
		want(t, "Drop", h.Drop(m.live[i]), api.OK)
		m.live = slices.Delete(m.live, i, i+1)
	case 10:
		layCopy(t, r, h, m)
	case 11:
		l := slices.Clone(m.objects[1:])
		r.Shuffle(len(l), func(i, k int) { l[i], l[k] = l[k], l[i] })
		kept := len(l) - r.Intn(1+len(l)/4)
		old := r.Intn(1 + kept)
		want(t, "Keep", h.Keep(m.wordsOf(l[:old]), m.wordsOf(l[old:kept])), api.OK)
		m.keep(l[:old], l[old:kept])
	}
}

// make1 makes an object.
func make1(t *testing.T, r *rand.Rand, h *Heap, m *model) {
	t.Helper()
	x := &node{kind: 1 + r.Intn(31), raw: r.Intn(3) == 0}
	var w Word
	var e api.Errno
	if x.raw {
		x.bytes = "0123456789abcdefghijklmnopqrst"[:r.Intn(30)]
		w, e = h.Raw(x.kind, x.bytes)
	} else {
		x.fields = slices.Repeat([]value{{object: m.objects[0]}}, r.Intn(5))
		w, e = h.New(x.kind, len(x.fields))
	}
	if used := sizeOf(m.objects); used+x.size() > m.limit {
		want(t, "New without room", e, api.ErrWords)
		return
	}
	m.objects = append(m.objects, x)
	if e != api.OK || w != m.wordOf(value{object: x}) {
		t.Fatalf("New = %d, %v; want %d", w, e, m.wordOf(value{object: x}))
	}
}

// layCopy lays the graph of a word once more. (P15.4: the copy has the same Cells.)
func layCopy(t *testing.T, r *rand.Rand, h *Heap, m *model) {
	t.Helper()
	words := []Word{m.wordOf(m.chance(r)), m.wordOf(m.chance(r))}
	cells, fields, e := h.Cells(words)
	want(t, "Cells", e, api.OK)
	copies, e := h.Lay(cells, fields)
	var made []*node
	for _, c := range cells {
		made = append(made, &node{kind: c.Kind, raw: c.Raw, bytes: c.Bytes})
	}
	for i, c := range cells {
		for _, f := range c.Fields {
			made[i].fields = append(made[i].fields, m.valueOf(made, f))
		}
	}
	if sizeOf(m.objects)+sizeOf(made) > m.limit {
		want(t, "Lay without room", e, api.ErrWords)
		return
	}
	want(t, "Lay", e, api.OK)
	m.objects = append(m.objects, made...)
	for i, f := range fields {
		if wanted := m.wordOf(m.valueOf(made, f)); copies[i] != wanted {
			t.Fatalf("Lay = %d; want %d", copies[i], wanted)
		}
	}
	again, laid, e := h.Cells(copies)
	if e != api.OK || !sameCells(again, cells) || !sameFields(laid, fields) {
		t.Fatalf("Cells of the copy: %v, %v, %v; want %v, %v", again, laid, e, cells, fields)
	}
}

func (m *model) valueOf(made []*node, f Field) value {
	switch f.Object {
	case -1:
		return value{word: f.Word}
	case -2:
		return value{object: m.objects[0]}
	}
	return value{object: made[f.Object]}
}

// P15.4: Keep of all that is met from roots, in any order and any spaces, changes no Cells of them.
func TestKeepLaw(t *testing.T) {
	all := 0
	for seed := range int64(500) {
		r := rand.New(rand.NewSource(seed))
		h, m := newHeap(t, 400, 400), newModel(400, 400)
		for range 60 {
			step(t, r, h, m, allButKeep)
		}
		cells, fields := graphOf(t, h)
		all += len(cells)
		var words []Word
		for _, n := range h.Roots() {
			w, _ := h.At(n)
			words = append(words, w)
		}
		met := metFrom(h, words)
		r.Shuffle(len(met), func(i, k int) { met[i], met[k] = met[k], met[i] })
		old := r.Intn(1 + len(met))
		want(t, "Keep", h.Keep(met[:old], met[old:]), api.OK)
		after, behind := graphOf(t, h)
		if !sameCells(after, cells) || !sameFields(behind, fields) {
			t.Fatalf("seed %d: Cells %v, %v behind Keep; want %v, %v", seed, after, behind, cells, fields)
		}
		other := newHeap(t, 400, 400)
		laid, e := other.Lay(cells, fields)
		want(t, "Lay in another heap", e, api.OK)
		if after, behind, _ := other.Cells(laid); !sameCells(after, cells) || !sameFields(behind, fields) {
			t.Fatalf("seed %d: Cells in another heap %v; want %v", seed, after, cells)
		}
	}
	if all < 1000 {
		t.Errorf("only %d cells", all)
	}
}

// metFrom returns the objects that are met from words, but for the first one.
func metFrom(h *Heap, words []Word) []Word {
	var met []Word
	for todo := slices.Clone(words); len(todo) > 0; {
		w := todo[0]
		todo = todo[1:]
		if h.Place(w) <= 0 || slices.Contains(met, w) {
			continue
		}
		met = append(met, w)
		for i := range h.Len(w) {
			if x, e := h.Get(w, i); e == api.OK {
				todo = append(todo, x)
			}
		}
	}
	return met
}

// P1: no function panics, for any words and numbers; with an error all is zero, and nothing has changed.
func TestAnyArguments(t *testing.T) {
	r := rand.New(rand.NewSource(1))
	var h *Heap
	numbers := []int{-1 << 63, -2, -1, 0, 1, 2, 5, 31, 32, 64, 16384, 16385, 1<<63 - 1}
	n := func() int { return numbers[r.Intn(len(numbers))] }
	words := append(badWords(), 0, 8, 777, Unbound, Nil, 51, 59, 67, 75, 99, 1<<63|3)
	w := func() Word { return words[r.Intn(len(words))] }
	field := func() Field { return Field{Word: w(), Object: n()} }
	calls := []func() (bool, api.Errno){ // whether there was a result, and the error
		func() (bool, api.Errno) { x, e := h.New(n(), n()); return x != 0, e },
		func() (bool, api.Errno) { x, e := h.Raw(n(), "0123456789"[:r.Intn(10)]); return x != 0, e },
		func() (bool, api.Errno) { x, e := h.Get(w(), n()); return x != 0, e },
		func() (bool, api.Errno) { return false, h.Set(w(), n(), w()) },
		func() (bool, api.Errno) { x, e := h.Bytes(w()); return x != "", e },
		func() (bool, api.Errno) { x, e := h.At(n()); return x != 0, e },
		func() (bool, api.Errno) { return false, h.Put(n(), w()) },
		func() (bool, api.Errno) { return false, h.Drop(n()) },
		func() (bool, api.Errno) { return false, h.Keep([]Word{w(), w()}, []Word{w()}) },
		func() (bool, api.Errno) {
			cells := []Cell{{Kind: n(), Raw: r.Intn(2) == 0, Fields: []Field{field()}}, {Kind: n(), Raw: true, Bytes: "x"}}
			x, e := h.Lay(cells[r.Intn(2):], []Field{field()})
			return x != nil, e
		},
		func() (bool, api.Errno) { x, y, e := h.Cells([]Word{w(), w()}); return x != nil || y != nil, e },
		func() (bool, api.Errno) {
			return h.Root(w()) == -2 || h.Kind(w())+h.Len(w()) < 0 || h.Place(w()) < -1, api.OK
		},
	}
	failed := 0
	for k := range 20000 {
		if k%200 == 0 {
			h = newHeap(t, 150, 20)
			m := newModel(150, 20)
			for range 30 {
				step(t, r, h, m, allThings)
			}
		}
		before, i := text(h), r.Intn(len(calls))
		result, e := calls[i]()
		if e == api.OK {
			continue
		}
		failed++
		if after := text(h); result || after != before {
			t.Fatalf("the call %d: %v, and a result or a change of\n%s\nto\n%s", i, e, before, after)
		}
	}
	if failed < 5000 {
		t.Errorf("only %d errors", failed)
	}
}

// text returns all that can be told of a heap.
func text(h *Heap) string {
	s := strconv.Itoa(h.Used()) + " " + strconv.Itoa(h.Old()) + " " + strconv.Itoa(h.Moves())
	for _, w := range h.Objects() {
		s += "\n" + strconv.Itoa(h.Kind(w)) + " " + strconv.Itoa(h.Len(w))
		bytes, _ := h.Bytes(w)
		s += bytes
		for i := range h.Len(w) {
			x, _ := h.Get(w, i)
			s += " " + strconv.FormatUint(uint64(x), 16)
		}
	}
	for _, r := range h.Roots() {
		x, _ := h.At(r)
		s += "\n" + strconv.Itoa(r) + " " + strconv.FormatUint(uint64(x), 16)
	}
	return s
}

// P15.1: of no heap, and of one that New did not make.
func TestNoHeap(t *testing.T) {
	for _, h := range []*Heap{nil, {}} {
		_, e := h.New(0, -1)
		want(t, "New", e, api.ErrArg)
		_, e = h.Raw(1, "")
		want(t, "Raw", e, api.ErrArg)
		_, e = h.Get(7, 0)
		want(t, "Get", e, api.ErrArg)
		want(t, "Set", h.Set(Nil, 0, 0), api.ErrArg)
		_, e = h.Bytes(Nil)
		want(t, "Bytes", e, api.ErrArg)
		_, e = h.At(0)
		want(t, "At", e, api.ErrArg)
		want(t, "Put", h.Put(0, 0), api.ErrArg)
		want(t, "Drop", h.Drop(0), api.ErrArg)
		_, _, e = h.Cells([]Word{7})
		want(t, "Cells", e, api.ErrArg)
		_, e = h.Lay([]Cell{{Kind: 99}}, nil)
		want(t, "Lay", e, api.ErrArg)
		want(t, "Keep", h.Keep([]Word{7}, nil), api.ErrArg)
		if h.Place(Nil) != -1 || h.Root(0) != -1 {
			t.Errorf("Place %d, Root %d", h.Place(Nil), h.Root(0))
		}
		if h.Kind(Nil) != 0 || h.Len(Nil) != 0 || h.Used() != 0 || h.Limit() != 0 || h.Full() || h.Old() != 0 || h.Moves() != 0 {
			t.Error("something is known of no heap")
		}
		if len(h.Objects()) > 0 || len(h.Remembered()) > 0 || len(h.Roots()) > 0 {
			t.Error("no heap has something")
		}
	}
}
