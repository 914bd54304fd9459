package table

import (
	"math/rand"
	"slices"
	"testing"

	"commonform/api"
	"commonform/collect"
	"commonform/heap"
)

// model is a table as a list of keys and values.
type model struct {
	maker
	test         int
	weak         bool
	word         heap.Word
	keys, values []heap.Word
	words        []heap.Word // what keys and values are taken from
	root         int         // of the table
}

// index returns which key is the same as a word, -1 for none.
func (m *model) index(key heap.Word) int {
	return slices.IndexFunc(m.keys, func(k heap.Word) bool { return isRelated(m.t, m.Heap, m.test, k, key) })
}

func (m *model) put(key, value heap.Word) {
	m.t.Helper()
	e := Put(m.Heap, m.word, key, value)
	if m.weak && key == heap.Unbound {
		want(m.t, "Put of Unbound", e, api.ErrArg)
		return
	}
	want(m.t, "Put", e, api.OK)
	if i := m.index(key); i >= 0 {
		m.values[i] = value
		return
	}
	m.keys, m.values = append(m.keys, key), append(m.values, value)
}

func (m *model) remove(key heap.Word) {
	m.t.Helper()
	there, e := Remove(m.Heap, m.word, key)
	i := m.index(key)
	if e != api.OK || there != (i >= 0) {
		m.t.Fatalf("Remove of %d: %v, %v; want %v", key, there, e, i >= 0)
	}
	if there {
		m.keys, m.values = slices.Delete(m.keys, i, i+1), slices.Delete(m.values, i, i+1)
	}
}

func (m *model) look(key heap.Word) {
	m.t.Helper()
	wanted, i := heap.Nil, m.index(key)
	if i >= 0 {
		wanted = m.values[i]
	}
	if x, there, e := Get(m.Heap, m.word, key); e != api.OK || there != (i >= 0) || x != wanted {
		m.t.Fatalf("Get of %d by the test %d: %d, %v, %v; want %d, %v", key, m.test, x, there, e, wanted, i >= 0)
	}
}

func (m *model) compare() {
	m.t.Helper()
	keys, e := Keys(m.Heap, m.word)
	want(m.t, "Keys", e, api.OK)
	values, e := Values(m.Heap, m.word)
	want(m.t, "Values", e, api.OK)
	n, e := Count(m.Heap, m.word)
	test, weak, f := Test(m.Heap, m.word)
	if !slices.Equal(keys, m.keys) || !slices.Equal(values, m.values) || n != len(m.keys) || e != api.OK || test != m.test || weak != m.weak || f != api.OK {
		m.t.Fatalf("Keys %v, Values %v, Count %d, %v; want %v, %v", keys, values, n, e, m.keys, m.values)
	}
	for i := range 5 {
		if x := m.get(heap.Nil, i); x != heap.Nil {
			m.t.Fatalf("the field %d of NIL is %d", i, x)
		}
	}
}

// moved changes all words of the model to where they are now; keys that are gone from a weak table are no more.
func (m *model) moved(now func(heap.Word) heap.Word) {
	m.t.Helper()
	var keys, values []heap.Word
	for i, k := range m.keys {
		if m.weak && now(k) == heap.Unbound {
			continue
		}
		keys, values = append(keys, now(k)), append(values, now(m.values[i]))
	}
	m.keys, m.values = keys, values
	for i, w := range m.words {
		m.words[i] = now(w)
	}
	w, e := m.At(m.root)
	want(m.t, "At", e, api.OK)
	m.word = w
}

// live returns the objects that are reached from the table and from words.
func (m *model) live(words []heap.Word) []heap.Word {
	c, _ := collect.New(m.Heap)
	var roots []int
	for _, w := range words {
		roots = append(roots, m.Root(w))
	}
	live := c.Live()
	for _, r := range roots {
		want(m.t, "Drop", m.Drop(r), api.OK)
	}
	return live
}

func (m *model) step(r *rand.Rand, isChanging bool) {
	m.t.Helper()
	word := func() heap.Word { return m.words[r.Intn(len(m.words))] }
	switch n := r.Intn(40); {
	case n < 14:
		m.put(word(), word())
	case n < 18:
		m.remove(word())
	case n < 32:
		m.look(word())
	case n == 32 && r.Intn(4) == 0:
		want(m.t, "Clear", Clear(m.Heap, m.word), api.OK)
		m.keys, m.values = nil, nil
	case n == 33:
		want(m.t, "Cool", Cool(m.Heap, m.word), api.OK)
		if m.get(m.word, 4) != heap.Nil {
			m.t.Fatal("a cool table has an index")
		}
	case n == 34:
		m.moved(m.move(r, m.live(m.words)))
	case n == 35:
		m.copy()
	case n >= 36 && isChanging:
		if w := word(); w != heap.Nil && m.Len(w) > 0 {
			m.Set(w, r.Intn(m.Len(w)), word())
		}
	}
	m.compare()
}

// copy goes on with a copy of the table and all words in a new heap.
func (m *model) copy() {
	m.t.Helper()
	want(m.t, "Cool", Cool(m.Heap, m.word), api.OK)
	all := slices.Concat([]heap.Word{m.word}, m.words, m.keys, m.values)
	cells, fields, e := m.Cells(all)
	want(m.t, "Cells", e, api.OK)
	next := newMaker(m.t, 60000)
	laid, e := next.Lay(cells, fields)
	want(m.t, "Lay", e, api.OK)
	m.maker, m.word, m.root = next, laid[0], next.Root(laid[0])
	laid = laid[1:]
	m.words, laid = laid[:len(m.words)], laid[len(m.words):]
	m.keys, m.values = slices.Clone(laid[:len(m.keys)]), slices.Clone(laid[len(m.keys):])
}

func newModel(t *testing.T, r *rand.Rand, test int, weak bool, count int) *model {
	m := &model{maker: newMaker(t, 60000), test: test, weak: weak}
	m.words = m.some(r, count)
	m.word = m.table(test, weak)
	m.root = m.Root(m.word)
	return m
}

// P17.1, P17.3, P17.4: a table tells what the list tells, whatever is done with it and with its keys, wherever they are moved.
func TestLikeTheList(t *testing.T) {
	for seed := range int64(120) {
		r := rand.New(rand.NewSource(seed))
		m := newModel(t, r, int(seed%4), seed%8 >= 4, 8+r.Intn(40))
		for range 150 {
			m.step(r, seed%3 > 0)
		}
	}
}

// P17.5: keys of a weak table are gone when nobody else holds them; all others are as before.
func TestGone(t *testing.T) {
	gone := 0
	for seed := range int64(60) {
		r := rand.New(rand.NewSource(seed))
		m := newModel(t, r, int(seed%4), true, 10+r.Intn(60))
		for range 8 {
			for range 40 {
				m.step(r, false)
			}
			r.Shuffle(len(m.words), func(i, k int) { m.words[i], m.words[k] = m.words[k], m.words[i] })
			held, before := m.words[:len(m.words)*3/4], len(m.keys)
			live := m.live(held)
			m.words = held
			m.moved(m.move(r, live))
			gone += before - len(m.keys)
			m.compare()
			m.words = append(m.words, m.some(r, 12)...)
		}
	}
	if gone < 300 {
		t.Errorf("only %d keys are gone", gone)
	}
}

// P17.5: what a collector lets go of a weak table, and of one that is not weak.
func TestCollected(t *testing.T) {
	for _, weak := range []bool{true, false} {
		m := newMaker(t, 5000)
		c, _ := collect.New(m.Heap)
		table := m.Root(m.table(EqualTest, weak))
		at := func(root int) heap.Word { w, _ := m.At(root); return w }
		var held []int
		for i := range 30 {
			key := m.text("key" + string(rune('a'+i)))
			if i%3 == 0 {
				held = append(held, m.Root(key))
			}
			want(t, "Put", Put(m.Heap, at(table), key, m.cons(key, fix(i))), api.OK)
		}
		c.Major()
		n, _ := Count(m.Heap, at(table))
		keys, _ := Keys(m.Heap, at(table))
		values, _ := Values(m.Heap, at(table))
		if wanted := map[bool]int{true: 10, false: 30}[weak]; n != wanted || len(keys) != wanted || len(values) != wanted {
			t.Errorf("weak %v: %d keys are left: %v", weak, n, keys)
		}
		for i, r := range held {
			x, there, _ := Get(m.Heap, at(table), at(r))
			if !there || m.get(x, 0) != at(r) || m.get(x, 1) != fix(3*i) {
				t.Errorf("weak %v: the key %d has the value %d, %v", weak, i, x, there)
			}
		}
		if _, there, _ := Get(m.Heap, at(table), m.text("keyb")); there == weak {
			t.Errorf("weak %v: the key b is there: %v", weak, there)
		}
		want(t, "Put", Put(m.Heap, at(table), m.text("keyb"), 0), api.OK)
		if keys, _ := Keys(m.Heap, at(table)); len(keys) != map[bool]int{true: 11, false: 30}[weak] {
			t.Errorf("weak %v: Keys = %v", weak, keys)
		}
	}
}

// P17.1: a key that Keep let go is Unbound, as any other field, in a table that is not weak.
func TestLost(t *testing.T) {
	m := newMaker(t, 2000)
	w := m.table(EqlTest, false)
	first, last := m.object(heap.KindBox, 0), m.object(heap.KindBox, 0)
	want(t, "Put", Put(m.Heap, w, first, fix(-1)), api.OK)
	for i := range 20 {
		want(t, "Put", Put(m.Heap, w, fix(i), fix(i)), api.OK)
	}
	want(t, "Put", Put(m.Heap, w, last, fix(-2)), api.OK)
	root := m.Root(w)
	kept := slices.DeleteFunc(m.Objects(), func(w heap.Word) bool { return w == heap.Nil || w == first || w == last })
	want(t, "Keep", m.Keep(nil, kept), api.OK)
	w, _ = m.At(root)
	if x, there, e := Get(m.Heap, w, heap.Unbound); x != fix(-1) || !there || e != api.OK {
		t.Errorf("Get of Unbound = %d, %v, %v; want the first one", x, there, e)
	}
	if keys, _ := Keys(m.Heap, w); len(keys) != 22 || keys[0] != heap.Unbound || keys[21] != heap.Unbound {
		t.Errorf("Keys = %v", keys)
	}
}

// P17.1: a key is found by what it is now.
func TestChangedKeys(t *testing.T) {
	makes := map[string]func(m maker, n int) heap.Word{
		"complex": func(m maker, n int) heap.Word { return m.object(heap.KindComplex, fix(n), fix(1)) },
		"cons":    func(m maker, n int) heap.Word { return m.list(fix(n), m.text("x")) },
		"vector":  func(m maker, n int) heap.Word { return m.vector(fix(n), char('x')) },
		"array": func(m maker, n int) heap.Word {
			return m.object(heap.KindArray, fix(n), m.vector(char('x')))
		},
	}
	of := map[string][]int{"complex": {EqlTest, EqualTest, EqualpTest}, "cons": {EqualTest, EqualpTest}, "vector": {EqualpTest}, "array": {EqualpTest}}
	for name, made := range makes {
		for _, test := range of[name] {
			for _, n := range []int{1, 40} {
				m := newMaker(t, 4000)
				changed := func(w heap.Word) heap.Word {
					if name == "array" { // which becomes one only now
						m.Set(w, 0, m.vector(fix(1)))
					} else {
						m.Set(w, 0, fix(99))
					}
					return w
				}
				w := m.table(test, false)
				var keys []heap.Word
				for i := range n {
					keys = append(keys, made(m, i))
					want(t, "Put", Put(m.Heap, w, keys[i], fix(i)), api.OK)
				}
				changed(keys[n-1])
				if x, there, _ := Get(m.Heap, w, changed(made(m, 7))); x != fix(n-1) || !there {
					t.Errorf("%s, %d: Get of a changed key = %d, %v", name, test, x, there)
				}
				if _, there, _ := Get(m.Heap, w, made(m, n-1)); there {
					t.Errorf("%s, %d: Get finds what a key was", name, test)
				}
				changed(keys[0])
				if x, there, _ := Get(m.Heap, w, changed(made(m, 7))); x != 0 || !there {
					t.Errorf("%s, %d: Get of two keys that are the same now = %d, %v; want the first one", name, test, x, there)
				}
			}
		}
	}
}

// P1: no function panics or goes on for ever, whatever words there are, also when others have changed the fields of a table.
func TestAnyArguments(t *testing.T) {
	r := rand.New(rand.NewSource(1))
	for range 300 {
		m := newMaker(t, 4000)
		words := append(m.some(r, 20), 7, 4, 59, 1<<63|3, 1<<64-1)
		w := m.table(r.Intn(4), r.Intn(2) == 0)
		for i := range r.Intn(40) {
			Put(m.Heap, w, fix(i), words[r.Intn(len(words))])
		}
		words = append(words, m.Objects()...)
		word := func() heap.Word { return words[r.Intn(len(words))] }
		for range 30 {
			if x := word(); m.Len(x) > 0 {
				m.Set(x, r.Intn(m.Len(x)), word())
			}
			if r.Intn(10) == 0 {
				m.Keep(nil, slices.DeleteFunc(m.Objects(), func(w heap.Word) bool { return w == heap.Nil || r.Intn(20) == 0 }))
			}
			for _, w := range []heap.Word{w, word()} {
				if r.Intn(4) > 0 {
					Put(m.Heap, w, word(), word())
					Get(m.Heap, w, word())
					Remove(m.Heap, w, word())
					Keys(m.Heap, w)
					Count(m.Heap, w)
					continue
				}
				for name, e := range calls(m.Heap, w, word(), word()) {
					if e < 0 {
						t.Fatalf("%s: an error and a result", name)
					}
				}
			}
			for test := range 6 {
				Hash(m.Heap, test-1, word())
			}
			for _, f := range relations() {
				f(m.Heap, word(), word())
			}
		}
	}
}

// P17.4: what a table keeps for looking up is not taken for right when only some objects have moved.
func TestSomeMoved(t *testing.T) {
	m := newMaker(t, 3000)
	var keys []heap.Word
	for range 40 {
		keys = append(keys, m.object(heap.KindBox, 0))
	}
	w := m.table(Eq, false)
	for i, k := range keys {
		want(t, "Put", Put(m.Heap, w, k, fix(i)), api.OK)
	}
	order := slices.Clone(m.Objects()[1:])
	slices.Reverse(order[:40]) // nothing else has another place then
	want(t, "Keep", m.Keep(nil, order), api.OK)
	var wanted []heap.Word
	for i := range 40 {
		wanted = append(wanted, keys[39-i], fix(i))
	}
	m.lists(w, wanted...)
}

// P17.1: a table of another heap, which was not cool when it was laid there, and a copy of one in its own heap.
func TestCopied(t *testing.T) {
	m := newMaker(t, 3000)
	w := m.table(EqlTest, false)
	all := []heap.Word{w}
	for i := range 40 {
		all = append(all, m.object(heap.KindBox, 0))
		want(t, "Put", Put(m.Heap, w, all[1+i], fix(i)), api.OK)
	}
	cells, fields, e := m.Cells(all)
	want(t, "Cells", e, api.OK)
	for _, other := range []maker{newMaker(t, 3000), m} {
		laid, e := other.Lay(cells, fields)
		want(t, "Lay", e, api.OK)
		var wanted []heap.Word
		for i, k := range laid[1:] {
			wanted = append(wanted, k, fix(i))
		}
		other.lists(laid[0], wanted...)
		want(t, "Put", Put(other.Heap, laid[0], 0, 0), api.OK)
		other.lists(laid[0], append(wanted, 0, 0)...)
	}
}

// P17.1, P17.4: the last keys that are left of many.
func TestFewLeft(t *testing.T) {
	for left := range 4 {
		m := newMaker(t, 5000)
		w := m.table(EqlTest, false)
		for i := range 50 {
			want(t, "Put", Put(m.Heap, w, fix(i), fix(i)), api.OK)
		}
		for i := range 50 - left {
			if there, e := Remove(m.Heap, w, fix((i+7)%50)); !there || e != api.OK {
				t.Fatalf("Remove: %v, %v", there, e)
			}
		}
		root := m.Root(w)
		m.move(rand.New(rand.NewSource(1)), m.Objects())
		w, _ = m.At(root)
		var wanted []heap.Word
		for i := 7 - left; i < 7; i++ {
			wanted = append(wanted, fix(i), fix(i))
		}
		m.lists(w, wanted...)
		for i := 100; i < 103; i++ {
			want(t, "Put", Put(m.Heap, w, fix(i), 0), api.OK)
			wanted = append(wanted, fix(i), 0)
			m.lists(w, wanted...)
		}
	}
}
