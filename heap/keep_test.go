package heap

import (
	"slices"
	"testing"

	"commonform/api"
)

// P15.1: objects at new places, in their order; references to what is gone are Unbound.
func TestKeep(t *testing.T) {
	h := newHeap(t, 64, 64)
	a := object(t, h, KindBox, 8)
	b := object(t, h, KindCons, a, Nil)
	s := raw(t, h, KindString, "123456789")
	c := object(t, h, KindVector, a, b, s)
	want(t, "Set", h.Set(b, 1, c), api.OK)
	want(t, "Set", h.Set(Nil, 2, a), api.OK)
	want(t, "Set", h.Set(Nil, 3, c), api.OK)
	for _, w := range []Word{a, b, c, s, Nil, 16} {
		h.Root(w)
	}
	want(t, "Keep", h.Keep([]Word{c}, []Word{s, b}), api.OK)
	if !slices.Equal(h.Objects(), []Word{Nil, 51, 83, 107}) || h.Old() != 10 || h.Used() != 16 || h.Moves() != 1 {
		t.Errorf("Objects %v, Old %d, Used %d, Moves %d", h.Objects(), h.Old(), h.Used(), h.Moves())
	}
	for r, wanted := range []Word{Unbound, 107, 51, 83, Nil, 16} {
		if w, e := h.At(r); w != wanted || e != api.OK {
			t.Errorf("At(%d) = %d, %v; want %d", r, w, e, wanted)
		}
	}
	for _, x := range []struct {
		w      Word
		fields []Word
	}{{Nil, []Word{Nil, Nil, Unbound, 51, Nil}}, {51, []Word{Unbound, 107, 83}}, {107, []Word{Unbound, 51}}} {
		for i, wanted := range x.fields {
			if w, e := h.Get(x.w, i); w != wanted || e != api.OK {
				t.Errorf("Get(%d, %d) = %d, %v; want %d", x.w, i, w, e, wanted)
			}
		}
	}
	if text, e := h.Bytes(83); text != "123456789" || e != api.OK {
		t.Errorf("Bytes = %q, %v", text, e)
	}
	if !slices.Equal(h.Remembered(), []Word{51}) {
		t.Errorf("Remembered = %v", h.Remembered())
	}
	want(t, "Keep of nothing", h.Keep(nil, []Word{}), api.OK)
	if h.Used() != 6 || h.Old() != 6 || h.Moves() != 2 {
		t.Errorf("Used %d, Old %d, Moves %d", h.Used(), h.Old(), h.Moves())
	}
	if d := object(t, h, KindBox, 0); d != 51 || h.Place(59) != -1 {
		t.Errorf("the next object is %d", d)
	}
}

// P15.1: errors of Keep, by R1 element by element, change nothing.
func TestKeepErrors(t *testing.T) {
	h := newHeap(t, 64, 64)
	a, b := object(t, h, KindBox, 8), object(t, h, KindBox, 16)
	before := h.Objects()
	for _, x := range []struct {
		old, young []Word
		wanted     api.Errno
	}{
		{[]Word{a, 0}, nil, ErrWord},
		{[]Word{777}, []Word{a, a}, ErrWord},
		{nil, []Word{a, Unbound}, ErrWord},
		{[]Word{a}, []Word{59}, ErrWord},
		{[]Word{7}, nil, ErrWord},
		{[]Word{a, b, a}, nil, api.ErrTwice},
		{nil, []Word{b, b}, api.ErrTwice},
		{[]Word{a}, []Word{b, a}, api.ErrTwice},
		{[]Word{Nil}, nil, api.ErrTwice},
		{nil, []Word{Nil}, api.ErrTwice},
		{[]Word{a, a, 7}, nil, api.ErrTwice},
		{[]Word{a, 7, a}, nil, ErrWord},
	} {
		want(t, "Keep", h.Keep(x.old, x.young), x.wanted)
	}
	if !slices.Equal(h.Objects(), before) || h.Moves() != 0 || h.Old() != 6 {
		t.Errorf("errors changed the heap: %v, Moves %d, Old %d", h.Objects(), h.Moves(), h.Old())
	}
}

// P15.5: an old object is remembered as long as a field has a reference to a young one.
func TestRemembered(t *testing.T) {
	h := newHeap(t, 64, 64)
	a, b := object(t, h, KindVector, 0, 0), object(t, h, KindBox, 0)
	s := raw(t, h, KindString, "\x33\x00\x00\x00\x00\x00\x00\x00") // the bytes of a reference
	want(t, "Keep", h.Keep([]Word{a, b, s}, nil), api.OK)
	young := object(t, h, KindBox, a)
	for _, x := range []struct {
		w      Word
		i      int
		x      Word
		wanted []Word
	}{
		{b, 0, a, nil},
		{a, 1, young, []Word{a}},
		{Nil, 4, young, []Word{Nil, a}},
		{b, 0, young, []Word{Nil, a, b}},
		{a, 0, young, []Word{Nil, a, b}},
		{a, 1, Nil, []Word{Nil, a, b}},
		{a, 0, b, []Word{Nil, b}},
		{young, 0, young, []Word{Nil, b}},
	} {
		want(t, "Set", h.Set(x.w, x.i, x.x), api.OK)
		if !slices.Equal(h.Remembered(), x.wanted) {
			t.Errorf("Remembered = %v behind Set(%d, %d, %d); want %v", h.Remembered(), x.w, x.i, x.x, x.wanted)
		}
	}
}
