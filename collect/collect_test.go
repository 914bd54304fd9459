package collect

import (
	"slices"
	"testing"

	"commonform/api"
	"commonform/heap"
)

// P16.1: no heap, and no collector.
func TestNoCollector(t *testing.T) {
	for _, h := range []*heap.Heap{nil, {}} {
		if c, e := New(h); e != api.ErrArg || c != nil {
			t.Errorf("New of no heap: %v", e)
		}
	}
	for _, c := range []*Collector{nil, {}} {
		for _, f := range []func() (Report, api.Errno){c.Minor, c.Major} {
			r, e := f()
			want(t, "a collection", e, api.ErrArg)
			if r != (Report{}) {
				t.Errorf("a report %+v", r)
			}
		}
		r, did, e := c.Step()
		want(t, "Step", e, api.ErrArg)
		want(t, "Watch", c.Watch(51, 1), api.ErrArg)
		if r != (Report{}) || did || c.Heap() != nil || len(c.Live()) > 0 || len(c.Ended()) > 0 || len(c.Watched()) > 0 {
			t.Error("no collector has something")
		}
	}
	h, c := start(t, 64, 64)
	if c.Heap() != h || !slices.Equal(c.Live(), []heap.Word{heap.Nil}) || len(c.Ended()) > 0 || len(c.Watched()) > 0 {
		t.Errorf("a new collector: Live %v, Ended %v, Watched %v", c.Live(), c.Ended(), c.Watched())
	}
}

// P16.1, P16.3: the example of two conses.
func TestGenerations(t *testing.T) {
	h, c := start(t, 64, 64)
	object(t, h, heap.KindCons, 0, 0)
	r := h.Root(object(t, h, heap.KindCons, 8, 8))
	if l := c.Live(); !slices.Equal(l, []heap.Word{heap.Nil, 75}) {
		t.Errorf("Live = %v", l)
	}
	for i, wanted := range []Report{
		{Major: true, Before: 12, After: 9},
		{Major: true, Before: 9, After: 9, Promoted: 1},
		{Major: true, Before: 9, After: 9},
	} {
		report, e := c.Major()
		if e != api.OK || report != wanted || at(t, h, r) != 51 {
			t.Errorf("Major %d: %+v, %v, and the cons is %d; want %+v", i, report, e, at(t, h, r), wanted)
		}
		if old := []int{6, 9, 9}[i]; h.Old() != old {
			t.Errorf("Old %d behind Major %d; want %d", h.Old(), i, old)
		}
	}
	object(t, h, heap.KindBox, at(t, h, r))
	if report, e := c.Minor(); e != api.OK || report != (Report{Before: 11, After: 9}) {
		t.Errorf("Minor: %+v, %v", report, e)
	}
	want(t, "Drop", h.Drop(r), api.OK)
	if report, _ := c.Minor(); report != (Report{Before: 9, After: 9}) {
		t.Errorf("Minor: %+v; old objects stay", report)
	}
	if report, _ := c.Major(); report != (Report{Major: true, Before: 9, After: 6}) {
		t.Errorf("Major: %+v", report)
	}
}

// P16.1: young objects stand behind old ones, each by their places; a Keep of somebody else takes the ages away.
func TestAges(t *testing.T) {
	h, c := start(t, 100, 100)
	old := h.Root(object(t, h, heap.KindBox, 0))
	c.Minor()
	c.Minor()
	aged := h.Root(object(t, h, heap.KindBox, 8))
	c.Minor()
	fresh := h.Root(object(t, h, heap.KindBox, 16))
	if h.Old() != 8 || h.Used() != 12 {
		t.Errorf("Old %d, Used %d", h.Old(), h.Used())
	}
	want(t, "Keep", h.Keep([]heap.Word{at(t, h, old)}, []heap.Word{at(t, h, fresh), at(t, h, aged)}), api.OK)
	if r, _ := c.Minor(); r != (Report{Before: 12, After: 12}) || h.Old() != 8 {
		t.Errorf("Minor behind Keep: %+v, Old %d", r, h.Old())
	}
	last := h.Root(object(t, h, heap.KindBox, 24))
	if r, _ := c.Minor(); r != (Report{Before: 14, After: 14, Promoted: 2}) || h.Old() != 12 {
		t.Errorf("Minor: %+v, Old %d", r, h.Old())
	}
	for r, wanted := range map[int]heap.Word{old: 51, fresh: 67, aged: 83, last: 99} {
		if w := at(t, h, r); w != wanted {
			t.Errorf("the root %d has %d; want %d", r, w, wanted)
		}
	}
	other, _ := New(h)
	if r, _ := other.Minor(); r.Promoted != 0 {
		t.Errorf("another collector: %+v", r)
	}
}

// P16.1: Step waits until the heap is full.
func TestStep(t *testing.T) {
	h, c := start(t, 64, 10)
	keep := func(n int) {
		for range n {
			h.Root(object(t, h, heap.KindBox, 0))
		}
	}
	keep(5)
	if r, did, e := c.Step(); did || e != api.OK || r != (Report{}) || h.Moves() != 0 {
		t.Errorf("Step of a heap that is not full: %+v, %v, %v", r, did, e)
	}
	object(t, h, heap.KindBox, 0)
	if r, did, e := c.Step(); !did || e != api.OK || r != (Report{Before: 18, After: 16}) {
		t.Errorf("Step: %+v, %v, %v", r, did, e)
	}
	keep(8)
	if r, did, e := c.Step(); !did || e != api.OK || r != (Report{Before: 32, After: 32, Promoted: 5}) || h.Moves() != 2 {
		t.Errorf("Step with half of the heap in use: %+v, %v, %v, Moves %d", r, did, e, h.Moves())
	}
	object(t, h, heap.KindVector)
	want(t, "Drop", h.Drop(0), api.OK)
	if r, did, e := c.Step(); !did || e != api.OK || r != (Report{Before: 33, After: 32, Promoted: 8}) {
		t.Errorf("Step with an old object that is gone: %+v, %v, %v", r, did, e)
	}
	keep(6)
	if r, did, e := c.Step(); !did || e != api.OK || r != (Report{Major: true, Before: 44, After: 42, Promoted: 6}) || h.Moves() != 5 {
		t.Errorf("Step with more than half in use: %+v, %v, %v, Moves %d", r, did, e, h.Moves())
	}
}

// P16.1, P16.4: what weak references, and pairs of them, keep and lose.
func TestWeak(t *testing.T) {
	h, c := start(t, 200, 200)
	kept, gone := object(t, h, heap.KindCons, 8, 8), object(t, h, heap.KindCons, 16, 16)
	kept1 := h.Root(kept)
	all := h.Root(object(t, h, heap.KindVector,
		object(t, h, heap.KindWeak, kept, gone, kept),
		object(t, h, heap.KindWeak, gone, kept),
		object(t, h, heap.KindWeak, 24),
		object(t, h, heap.KindWeak),
	))
	if _, e := h.Raw(heap.KindWeak, "\x33\x00\x00\x00\x00\x00\x00\x00"); e != api.OK {
		t.Error(e)
	}
	object(t, h, heap.KindWeak, gone) // nobody holds it, so that it loses nothing
	if r, e := c.Major(); e != api.OK || r.Lost != 1 {
		t.Errorf("Major: %+v, %v", r, e)
	}
	w := at(t, h, all)
	for i, fields := range [][]heap.Word{{at(t, h, kept1), heap.Unbound, at(t, h, kept1)}, {heap.Unbound, at(t, h, kept1)}, {24}} {
		for k, wanted := range fields {
			if x := get(t, h, get(t, h, w, i), k); x != wanted {
				t.Errorf("the field %d of %d is %d; want %d", k, i, x, wanted)
			}
		}
	}
}

// P16.1, P16.4: the values of ephemerons.
func TestEphemerons(t *testing.T) {
	h, c := start(t, 300, 300)
	box := func(x heap.Word) heap.Word { return object(t, h, heap.KindBox, x) }
	pair := func(fields ...heap.Word) int { return h.Root(object(t, h, heap.KindEphemeron, fields...)) }
	kept := box(8)
	h.Root(kept)
	ownKey := box(16)
	chain, further := box(24), box(32)
	pairs := []struct {
		root   int
		isLost bool
	}{
		{pair(kept, box(0)), false},
		{pair(40, box(0)), false},
		{pair(heap.Unbound, box(0)), false},
		{pair(heap.Nil, box(0)), false},
		{pair(ownKey, object(t, h, heap.KindCons, ownKey, 0)), true},
		{pair(further, box(0)), false}, // its key is the value of the next one
		{pair(chain, further), false},
		{pair(kept, chain), false},
		{pair(box(0), kept, box(0)), true}, // the value goes, though it is held elsewhere
		{pair(box(0), 8), true},
	}
	single := h.Root(object(t, h, heap.KindEphemeron, box(48)))
	h.Root(object(t, h, heap.KindEphemeron))
	if r, e := c.Major(); e != api.OK || r.Lost != 3 {
		t.Errorf("Major: %+v, %v", r, e)
	}
	for _, x := range pairs {
		w := at(t, h, x.root)
		key, value := get(t, h, w, 0), get(t, h, w, 1)
		if x.isLost && key != heap.Unbound || (value == heap.Unbound) != x.isLost {
			t.Errorf("the pair %d has the key %d and the value %d", x.root, key, value)
		}
	}
	if x := get(t, h, at(t, h, pairs[8].root), 2); x == heap.Unbound {
		t.Error("a further field is gone")
	}
	if x := get(t, h, get(t, h, at(t, h, single), 0), 0); x != 48 {
		t.Errorf("an ephemeron with one field has %d", x)
	}
}

// P16.5: each watcher ends once, in its order.
func TestWatchers(t *testing.T) {
	h, c := start(t, 100, 100)
	a, b, d := object(t, h, heap.KindBox, 0), object(t, h, heap.KindBox, 0), object(t, h, heap.KindBox, 0)
	root := h.Root(b)
	for _, w := range []heap.Word{0, 7, heap.Unbound, 59, 1<<63 | 3} {
		want(t, "Watch of no object", c.Watch(w, 1), heap.ErrWord)
	}
	want(t, "Watch of NIL", c.Watch(heap.Nil, 1), api.ErrArg)
	for id, w := range []heap.Word{d, b, a, a, b} {
		want(t, "Watch", c.Watch(w, id%4), api.OK)
	}
	if !slices.Equal(c.Watched(), []int{0, 1, 2, 3, 0}) || len(c.Ended()) > 0 {
		t.Errorf("Watched %v, Ended %v", c.Watched(), c.Ended())
	}
	c.Minor()
	want(t, "Drop", h.Drop(root), api.OK)
	c.Minor()
	if !slices.Equal(c.Watched(), []int{}) || !slices.Equal(c.Ended(), []int{0, 2, 3, 1, 0}) || len(c.Ended()) > 0 {
		t.Errorf("Watched %v, Ended %v", c.Watched(), c.Ended())
	}
	if h.Used() != 6 || len(h.Roots()) > 0 || h.Root(0) != 1 {
		t.Errorf("watchers hold objects: Used %d, Roots %v", h.Used(), h.Roots())
	}
}
