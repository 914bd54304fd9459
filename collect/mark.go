package collect

import (
	"iter"
	"slices"

	"commonform/api"
	"commonform/heap"
)

// Fields of ephemerons and weak pairs.
const (
	keyField = iota
	valueField
	firstStrongField
)

// marks tells which objects of a heap are reached.
type marks struct {
	heap    *heap.Heap
	old     int                       // the objects ahead of this place are reached, all of them
	met     map[heap.Word]bool        // the others that are reached
	queue   []heap.Word               // reached objects whose parts are to be looked at
	waiting map[heap.Word][]heap.Word // ephemerons by their keys, which were not reached when they were asked
}

// markAll marks the live objects.
func markAll(h *heap.Heap) *marks {
	m := newMarks(h, len(h.Objects()))
	m.reach(heap.Nil)
	m.reachRoots()
	return m
}

// markYoung marks all old objects, and the young ones that are reached from them and from roots.
func markYoung(h *heap.Heap) *marks {
	m := newMarks(h, 0) // most young objects are soon gone
	m.old = h.Old()
	m.queue = h.Remembered() // no other old object has a part that is young
	m.reachRoots()
	return m
}

// newMarks returns marks without any, for about so many objects.
func newMarks(h *heap.Heap, objects int) *marks {
	return &marks{heap: h, met: make(map[heap.Word]bool, objects), waiting: map[heap.Word][]heap.Word{}}
}

// kept returns the objects that are reached, by their places.
func (m *marks) kept() []heap.Word { return slices.DeleteFunc(m.heap.Objects(), m.isGone) }

// isGone reports whether a word refers to an object that is not reached.
func (m *marks) isGone(w heap.Word) bool {
	return w.IsRef() && m.heap.Place(w) >= m.old && !m.met[w]
}

func (m *marks) reach(w heap.Word) {
	if m.isGone(w) {
		m.met[w] = true
		m.queue = append(m.queue, w)
	}
}

// reachRoots marks all that is reached from roots and from what was reached ahead of it.
func (m *marks) reachRoots() {
	for _, r := range m.heap.Roots() {
		if w, e := m.heap.At(r); e == api.OK {
			m.reach(w)
		}
	}
	m.spread()
}

// spread reaches all that the objects of the queue hold.
func (m *marks) spread() {
asking:
	for len(m.queue) > 0 {
		last := len(m.queue) - 1
		w := m.queue[last]
		m.queue = append(m.queue[:last], m.waiting[w]...) // they are asked again, now that their key is reached
		delete(m.waiting, w)
		for part := range strongParts(m.heap, w) {
			m.reach(part)
		}
		key, value, ok := ephemeron(m.heap, w)
		switch {
		case !ok:
			continue asking
		case m.isGone(key):
			m.waiting[key] = append(m.waiting[key], w)
			continue asking
		}
		m.reach(value)
	}
}

// lose counts the weak references and keys that are lost, and takes the values of such keys away. The heap itself loses references to objects that are gone.
func (m *marks) lose(kept []heap.Word) int {
	lost := 0
	for _, w := range kept {
		if weak, ok := weakReference(m.heap, w); ok && m.isGone(weak) {
			lost++
		}
		if key, _, ok := ephemeron(m.heap, w); ok && m.isGone(key) {
			lost++
			m.heap.Set(w, valueField, heap.Unbound)
		}
	}
	return lost
}

// strongParts comes to the fields of an object that hold what they refer to.
func strongParts(h *heap.Heap, w heap.Word) iter.Seq[heap.Word] {
	return func(yield func(heap.Word) bool) {
		i := 0
		if _, _, ok := ephemeron(h, w); ok {
			i = firstStrongField
		}
		if h.Kind(w) == heap.KindWeak {
			return
		}
		for ; ; i++ {
			part, e := h.Get(w, i)
			if e != api.OK || !yield(part) {
				return
			}
		}
	}
}

// ephemeron returns the key and the value of an ephemeron that has both.
func ephemeron(h *heap.Heap, w heap.Word) (key, value heap.Word, ok bool) {
	if h.Kind(w) != heap.KindEphemeron {
		return 0, 0, false
	}
	value, e := h.Get(w, valueField)
	if e != api.OK {
		return 0, 0, false
	}
	key, e = h.Get(w, keyField)
	return key, value, e == api.OK
}

// weakReference returns the weak reference of an object that has one.
func weakReference(h *heap.Heap, w heap.Word) (heap.Word, bool) {
	if h.Kind(w) != heap.KindWeak {
		return 0, false
	}
	weak, e := h.Get(w, keyField)
	return weak, e == api.OK
}
