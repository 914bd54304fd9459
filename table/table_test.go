package table

import (
	"slices"
	"testing"

	"commonform/api"
	"commonform/heap"
)

// P17.1: examples.
func TestExamples(t *testing.T) {
	m := newMaker(t, 1000)
	x, y := m.text("x"), m.text("x")
	w := m.table(EqualTest, false)
	want(t, "Put", Put(m.Heap, w, x, fix(4)), api.OK)
	want(t, "Put", Put(m.Heap, w, y, fix(5)), api.OK)
	m.lists(w, x, fix(5))
	if v, there, e := Get(m.Heap, w, y); v != fix(5) || !there || e != api.OK {
		t.Errorf("Get = %d, %v, %v", v, there, e)
	}
	w = m.table(EqlTest, false)
	for _, n := range []int{3, 1, 2} {
		want(t, "Put", Put(m.Heap, w, fix(n), fix(-n)), api.OK)
	}
	if there, e := Remove(m.Heap, w, fix(3)); !there || e != api.OK {
		t.Errorf("Remove = %v, %v", there, e)
	}
	if there, e := Remove(m.Heap, w, fix(3)); there || e != api.OK {
		t.Errorf("Remove once more = %v, %v", there, e)
	}
	want(t, "Put", Put(m.Heap, w, fix(3), heap.Unbound), api.OK)
	m.lists(w, fix(1), fix(-1), fix(2), fix(-2), fix(3), heap.Unbound)
	if v, there, e := Get(m.Heap, w, fix(4)); v != heap.Nil || there || e != api.OK {
		t.Errorf("Get of no key = %d, %v, %v", v, there, e)
	}
	want(t, "Clear", Clear(m.Heap, w), api.OK)
	m.lists(w)
	want(t, "Put", Put(m.Heap, w, w, w), api.OK)
	m.lists(w, w, w)
}

// P17.1: a table says what New was told.
func TestOfNew(t *testing.T) {
	m := newMaker(t, 1000)
	for test := range 4 {
		for _, weak := range []bool{false, true} {
			w := m.table(test, weak)
			if n, is, e := Test(m.Heap, w); n != test || is != weak || e != api.OK {
				t.Errorf("Test = %d, %v, %v; want %d, %v", n, is, e, test, weak)
			}
			if m.Kind(w) != heap.KindTable || m.Len(w) != 5 {
				t.Errorf("a table has the kind %d, and %d fields", m.Kind(w), m.Len(w))
			}
			m.lists(w)
		}
	}
	for _, test := range []int{-1, 4, 1 << 62} {
		w, e := New(m.Heap, test, false)
		want(t, "New of no test", e, api.ErrArg)
		if w != 0 {
			t.Errorf("New = %d", w)
		}
	}
	none, e := New(nil, 9, false)
	want(t, "New of no heap", e, api.ErrArg)
	m = newMaker(t, 64)
	m.object(heap.KindVector, slices.Repeat([]heap.Word{0}, 52)...)
	w, e := New(m.Heap, Eq, true)
	want(t, "New without room", e, api.ErrWords)
	if none != 0 || w != 0 || m.Used() != 59 {
		t.Errorf("New = %d, Used %d", w, m.Used())
	}
}

// calls are all functions of tables, with the words that they take.
func calls(h *heap.Heap, t, key, value heap.Word) map[string]api.Errno {
	all := map[string]api.Errno{}
	zero := func(name string, isZero bool, e api.Errno) {
		if e != api.OK && !isZero {
			e = -1
		}
		all[name] = e
	}
	n, is, e := Test(h, t)
	zero("Test", n == 0 && !is, e)
	w, is, e := Get(h, t, key)
	zero("Get", w == 0 && !is, e)
	all["Put"] = Put(h, t, key, value)
	is, e = Remove(h, t, key)
	zero("Remove", !is, e)
	all["Clear"] = Clear(h, t)
	n, e = Count(h, t)
	zero("Count", n == 0, e)
	l, e := Keys(h, t)
	zero("Keys", l == nil, e)
	l, e = Values(h, t)
	zero("Values", l == nil, e)
	all["Cool"] = Cool(h, t)
	return all
}

// P17.1: errors of all functions, in their order.
func TestErrors(t *testing.T) {
	m := newMaker(t, 1000)
	right, weak := m.table(EqlTest, false), m.table(EqlTest, true)
	raw := m.raw(heap.KindTable, "12345")
	noTables := []heap.Word{0, 777, heap.Unbound, heap.Nil, m.cons(0, 0), raw, m.object(heap.KindTable, 0, 0, 0, heap.Nil), m.object(heap.KindVector, 0, 0, 0, heap.Nil, heap.Nil)}
	fresh, _ := m.New(heap.KindTable, 5)
	noTables = append(noTables, fresh)
	for _, fields := range [][]heap.Word{ // none of them is what New makes
		{fix(-1), 0, 0, heap.Nil, heap.Nil},
		{fix(4), 0, 0, heap.Nil, heap.Nil},
		{heap.Unbound, 0, 0, heap.Nil, heap.Nil},
		{0, fix(2), 0, heap.Nil, heap.Nil},
		{0, fix(-1), 0, heap.Nil, heap.Nil},
		{0, 0, fix(-1), heap.Nil, heap.Nil},
		{0, 0, heap.Nil, heap.Nil, heap.Nil},
		{0, 0, 0, 0, heap.Nil},
		{0, fix(1), 0, m.object(heap.KindEntry, 0, 0, heap.Nil, 0), heap.Nil},
		{0, 0, 0, m.object(heap.KindEntry, 0, 0, heap.Nil), heap.Nil},
	} {
		noTables = append(noTables, m.object(heap.KindTable, fields...))
	}
	const bad = 7
	check := func(what string, h *heap.Heap, w, key, value heap.Word, wanted func(name string) api.Errno) {
		t.Helper()
		for name, e := range calls(h, w, key, value) {
			if e != wanted(name) {
				t.Errorf("%s of %s: %v; want %v", name, what, e, wanted(name))
			}
		}
	}
	always := func(e api.Errno) func(string) api.Errno { return func(string) api.Errno { return e } }
	check("no heap", nil, bad, bad, bad, always(api.ErrArg))
	check("an empty heap", &heap.Heap{}, bad, bad, bad, always(api.ErrArg))
	for _, w := range []heap.Word{bad, 4, 59, 1<<63 | 3, 10} {
		check("no word", m.Heap, w, bad, bad, always(heap.ErrWord))
	}
	for _, w := range noTables {
		check("no table", m.Heap, w, bad, bad, always(ErrTable))
	}
	ofKey := func(name string) api.Errno {
		if name == "Get" || name == "Put" || name == "Remove" {
			return heap.ErrWord
		}
		return api.OK
	}
	ofPut := func(wanted api.Errno) func(string) api.Errno {
		return func(name string) api.Errno {
			if name == "Put" {
				return wanted
			}
			return api.OK
		}
	}
	check("a bad key", m.Heap, right, bad, 0, ofKey)
	check("a bad value", m.Heap, right, 0, bad, ofPut(heap.ErrWord))
	check("a bad value, and the key Unbound,", m.Heap, weak, heap.Unbound, bad, ofPut(heap.ErrWord))
	check("the key Unbound", m.Heap, weak, heap.Unbound, 0, ofPut(api.ErrArg))
	check("the key Unbound that is not weak", m.Heap, right, heap.Unbound, 0, always(api.OK))
}

// P17.1: without room Put changes nothing, and all else goes on.
func TestNoRoom(t *testing.T) {
	for limit := 64; limit < 400; limit += 7 {
		for _, weak := range []bool{false, true} {
			m := newMaker(t, limit)
			w := m.table(EqlTest, weak)
			var wanted []heap.Word
			for n := 0; ; n++ {
				used := m.Used()
				e := Put(m.Heap, w, fix(n), fix(n+1))
				if e != api.OK {
					want(t, "Put without room", e, api.ErrWords)
					if m.Used() != used {
						t.Errorf("Put without room took %d words", m.Used()-used)
					}
					break
				}
				wanted = append(wanted, fix(n), fix(n+1))
			}
			m.lists(w, wanted...)
			want(t, "Put of a key that is there", Put(m.Heap, w, fix(3), fix(7)), api.OK)
			wanted[7] = fix(7)
			m.lists(w, wanted...)
			want(t, "Cool", Cool(m.Heap, w), api.OK)
			m.lists(w, wanted...)
			if there, e := Remove(m.Heap, w, fix(0)); !there || e != api.OK {
				t.Errorf("Remove = %v, %v", there, e)
			}
			m.lists(w, wanted[2:]...)
		}
	}
}

// P17.1: how a table lies that is cool, in any state ahead.
func TestCool(t *testing.T) {
	for _, weak := range []bool{false, true} {
		for _, n := range []int{0, 1, 3, 50} {
			m := newMaker(t, 2000)
			w := m.table(EqualTest, weak)
			var wanted []heap.Word
			for i := range n {
				want(t, "Put", Put(m.Heap, w, fix(i), fix(-i)), api.OK)
				wanted = append(wanted, fix(i), fix(-i))
			}
			want(t, "Cool", Cool(m.Heap, w), api.OK)
			lookAtCool(m, w, EqualTest, weak, wanted)
			m.lists(w, wanted...)
			want(t, "Cool", Cool(m.Heap, w), api.OK)
			cells, fields, e := m.Cells([]heap.Word{w})
			want(t, "Cells", e, api.OK)
			other := newMaker(t, 2000)
			other.text("something that stands ahead")
			laid, e := other.Lay(cells, fields)
			want(t, "Lay", e, api.OK)
			lookAtCool(other, laid[0], EqualTest, weak, wanted)
			other.lists(laid[0], wanted...)
			want(t, "Put", Put(other.Heap, laid[0], fix(-7), 0), api.OK)
			other.lists(laid[0], append(wanted, fix(-7), 0)...)
		}
	}
}

// lookAtCool fails if a table does not lie as a cool one.
func lookAtCool(m maker, w heap.Word, test int, weak bool, wanted []heap.Word) {
	m.t.Helper()
	kind, isWeak := heap.KindEntry, 0
	if weak {
		kind, isWeak = heap.KindEphemeron, 1
	}
	var fields []heap.Word
	for i := range 5 {
		fields = append(fields, m.get(w, i))
	}
	if !slices.Equal(fields[:3], []heap.Word{fix(test), fix(isWeak), fix(len(wanted) / 2)}) || fields[4] != heap.Nil {
		m.t.Errorf("the fields of a cool table are %v", fields)
	}
	entry := fields[3]
	for i := 0; i < len(wanted); i += 2 {
		if m.Kind(entry) != kind || m.Len(entry) != 4 || m.get(entry, 0) != wanted[i] || m.get(entry, 1) != wanted[i+1] || m.get(entry, 3) != 0 {
			m.t.Fatalf("the entry of %d is %d", wanted[i], entry)
		}
		entry = m.get(entry, 2)
	}
	if entry != heap.Nil {
		m.t.Errorf("the last entry is followed by %d", entry)
	}
}

// P17.3: many keys, of which many are removed again.
func TestMany(t *testing.T) {
	for test := range 4 {
		m := newMaker(t, 65536)
		w := m.table(test, false)
		keys := map[int]heap.Word{}
		for i := range 2000 {
			keys[i] = fix(i)
			switch {
			case i%3 == 1:
				keys[i] = m.text("key")
				if test >= EqualTest {
					keys[i] = m.text("key" + string(rune(0x4e00+i)))
				}
			case i%3 == 2:
				keys[i] = m.object(heap.KindBox, 0)
			}
			want(t, "Put", Put(m.Heap, w, keys[i], fix(i)), api.OK)
		}
		var wanted []heap.Word
		for i := range 2000 {
			if i%7 > 0 {
				wanted = append(wanted, keys[i], fix(i))
				continue
			}
			if there, e := Remove(m.Heap, w, keys[i]); !there || e != api.OK {
				t.Fatalf("Remove of the key %d: %v, %v", i, there, e)
			}
		}
		m.lists(w, wanted...)
		for i := range 2000 {
			if _, there, e := Get(m.Heap, w, keys[i]); there != (i%7 > 0) || e != api.OK {
				t.Fatalf("Get of the key %d: %v, %v", i, there, e)
			}
		}
		other := m.table(test, false)
		for i := 0; i < len(wanted); i += 2 {
			want(t, "Put", Put(m.Heap, other, wanted[i], wanted[i+1]), api.OK)
		}
		m.lists(other, wanted...)
		want(t, "Clear", Clear(m.Heap, w), api.OK)
		m.lists(w)
		want(t, "Put", Put(m.Heap, w, keys[1], 0), api.OK)
		m.lists(w, keys[1], 0)
	}
}
