package heap

import (
	"slices"
	"testing"

	"commonform/api"
)

// P15.1: roots have numbers of their own.
func TestRoots(t *testing.T) {
	h := newHeap(t, 64, 64)
	c := object(t, h, KindCons, 0, 0)
	for i, w := range []Word{c, 40, Unbound, Nil} {
		if r := h.Root(w); r != i {
			t.Errorf("Root(%d) = %d; want %d", w, r, i)
		}
		if x, e := h.At(i); x != w || e != api.OK {
			t.Errorf("At(%d) = %d, %v", i, x, e)
		}
	}
	for _, w := range append(badWords(), 59, 1<<63|3) {
		if r := h.Root(w); r != -1 {
			t.Errorf("Root(%d) = %d", w, r)
		}
		want(t, "Put of no word", h.Put(1, w), ErrWord)
		want(t, "Put in no root", h.Put(9, w), api.ErrNone)
	}
	want(t, "Put", h.Put(1, c), api.OK)
	want(t, "Drop", h.Drop(3), api.OK)
	want(t, "Drop", h.Drop(0), api.OK)
	for _, r := range []int{0, 3, 4, -1, 1 << 62, -1 << 63} {
		w, e := h.At(r)
		want(t, "At", e, api.ErrNone)
		want(t, "Put", h.Put(r, 0), api.ErrNone)
		want(t, "Drop", h.Drop(r), api.ErrNone)
		if w != 0 {
			t.Errorf("At(%d) = %d", r, w)
		}
	}
	if !slices.Equal(h.Roots(), []int{1, 2}) {
		t.Errorf("Roots = %v", h.Roots())
	}
	if r := h.Root(0); r != 4 {
		t.Errorf("the next root is %d; want 4", r)
	}
	if w, e := h.At(1); w != c || e != api.OK {
		t.Errorf("At(1) = %d, %v; want %d", w, e, c)
	}
	l := h.Roots()
	l[0] = 77
	if !slices.Equal(h.Roots(), []int{1, 2, 4}) {
		t.Errorf("Roots = %v behind a change of the list", h.Roots())
	}
}
