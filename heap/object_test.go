package heap

import (
	"slices"
	"strings"
	"testing"

	"commonform/api"
)

// P15.1: a new heap, and its bounds.
func TestNewHeap(t *testing.T) {
	h := newHeap(t, 64, 64)
	if h.Used() != 6 || h.Old() != 6 || h.Limit() != 64 || h.Full() || h.Moves() != 0 {
		t.Errorf("Used %d, Old %d, Limit %d, Full %v, Moves %d", h.Used(), h.Old(), h.Limit(), h.Full(), h.Moves())
	}
	if !slices.Equal(h.Objects(), []Word{Nil}) || len(h.Roots()) > 0 || len(h.Remembered()) > 0 {
		t.Errorf("Objects %v, Roots %v, Remembered %v", h.Objects(), h.Roots(), h.Remembered())
	}
	if h.Kind(Nil) != KindSymbol || h.Len(Nil) != 5 || h.Place(Nil) != 0 {
		t.Errorf("NIL: Kind %d, Len %d, Place %d", h.Kind(Nil), h.Len(Nil), h.Place(Nil))
	}
	for i := range 5 {
		if w, e := h.Get(Nil, i); w != Nil || e != api.OK {
			t.Errorf("the field %d of NIL is %d, %v", i, w, e)
		}
	}
	for _, x := range [][2]int{{63, 1}, {65537, 1}, {64, 0}, {64, 65}, {-64, 1}, {64, -1}, {1<<63 - 1, 1}, {0, 0}} {
		if h, e := New(x[0], x[1]); e != api.ErrArg || h != nil {
			t.Errorf("New(%d, %d): %v", x[0], x[1], e)
		}
	}
	for _, x := range [][2]int{{64, 1}, {65536, 65536}, {65536, 1}} {
		newHeap(t, x[0], x[1])
	}
}

// P15.1, P15.3: objects with fields and with bytes.
func TestObjects(t *testing.T) {
	h := newHeap(t, 64, 3)
	c := object(t, h, KindCons, 40, Nil)
	if c != 51 || h.Used() != 9 || h.Full() {
		t.Errorf("the first cons is %d, Used %d, Full %v", c, h.Used(), h.Full())
	}
	want(t, "a circle", h.Set(c, 1, c), api.OK)
	s := raw(t, h, KindString, "abc")
	if h.Used() != 11 || h.Place(s) != 9 || h.Len(s) != 3 || h.Kind(s) != KindString || !h.Full() {
		t.Errorf("Used %d, Place %d, Len %d, Kind %d, Full %v", h.Used(), h.Place(s), h.Len(s), h.Kind(s), h.Full())
	}
	empty, none := raw(t, h, KindBits, ""), object(t, h, KindVector)
	if h.Used() != 13 || h.Len(empty) != 0 || h.Len(none) != 0 || h.Old() != 6 {
		t.Errorf("Used %d, Len %d and %d, Old %d", h.Used(), h.Len(empty), h.Len(none), h.Old())
	}
	if w, e := h.New(31, 2); w == 0 || e != api.OK {
		t.Errorf("New of the last kind: %d, %v", w, e)
	}
	fresh, _ := h.New(1, 3)
	for i := range 3 {
		if w, e := h.Get(fresh, i); w != Nil || e != api.OK {
			t.Errorf("a new field is %d, %v", w, e)
		}
	}
	for _, x := range []Word{Unbound, 777, 0, 1<<63 | 8, c, Nil} {
		if e := h.Set(fresh, 1, x); e != api.OK {
			t.Errorf("Set of %d: %v", x, e)
		}
		if w, e := h.Get(fresh, 1); w != x || e != api.OK {
			t.Errorf("Get behind Set of %d = %d, %v", x, w, e)
		}
	}
}

// P15.3: all bytes, and all lengths around words.
func TestBytes(t *testing.T) {
	var all strings.Builder
	for i := range 256 {
		all.WriteByte(byte(255 - i))
	}
	h := newHeap(t, 65536, 1)
	for n := range 257 {
		text := all.String()[:n]
		used := h.Used()
		w := raw(t, h, 1+n%31, text)
		if s, e := h.Bytes(w); s != text || e != api.OK || h.Used() != used+1+(n+7)/8 {
			t.Fatalf("Bytes of %q = %q, %v; Used %d", text, s, e, h.Used()-used)
		}
	}
	h = newHeap(t, 65536, 1)
	w := raw(t, h, 1, strings.Repeat("x", 131072))
	if h.Len(w) != 131072 || h.Used() != 6+1+16384 {
		t.Errorf("Len %d, Used %d", h.Len(w), h.Used())
	}
	if w, e := h.Raw(1, strings.Repeat("x", 131073)); e != api.ErrArg || w != 0 {
		t.Errorf("too many bytes: %d, %v", w, e)
	}
	if w, e := h.New(1, 16384); w == 0 || e != api.OK {
		t.Errorf("the most fields: %d, %v", w, e)
	}
	if w, e := h.New(1, 16385); e != api.ErrArg || w != 0 {
		t.Errorf("too many fields: %d, %v", w, e)
	}
}

// P15.1: errors of objects, in their order.
func TestObjectErrors(t *testing.T) {
	h := newHeap(t, 64, 64)
	c, s := object(t, h, KindCons, 0, 0), raw(t, h, KindString, "12345678")
	if reference := Word(h.Place(s)+1)<<3 | 3; h.Place(reference) != -1 || h.Kind(reference) != 0 || h.Len(reference) != 0 {
		t.Errorf("the bytes of a string are an object")
	}
	used := h.Used()
	for _, x := range []struct{ kind, fields int }{{0, 1}, {32, 1}, {-1, 1}, {1, -1}, {1, 16385}, {0, 100}, {1 << 40, 1}} {
		w, e := h.New(x.kind, x.fields)
		want(t, "New", e, api.ErrArg)
		if w != 0 {
			t.Errorf("New(%d, %d) = %d", x.kind, x.fields, w)
		}
	}
	room := 64 - used
	_, e := h.New(1, room)
	want(t, "New of one too many", e, api.ErrWords)
	_, e = h.Raw(1, strings.Repeat("x", 8*room-7))
	want(t, "Raw of one too many", e, api.ErrWords)
	_, e = h.Raw(0, strings.Repeat("x", 8*room))
	want(t, "Raw of no kind", e, api.ErrArg)
	_, e = h.Raw(32, "")
	want(t, "Raw of no kind", e, api.ErrArg)
	if h.Used() != used {
		t.Errorf("errors took %d words", h.Used()-used)
	}
	strangers := append(badWords(), 0, 777, Unbound, Word(used)<<3|3, 59, 1<<63|3, 1<<64-5)
	for _, w := range strangers {
		_, e := h.Get(w, 0)
		want(t, "Get of no object", e, ErrWord)
		want(t, "Set of no object", h.Set(w, 0, 7), ErrWord)
		_, e = h.Bytes(w)
		want(t, "Bytes of no object", e, ErrWord)
		if h.Kind(w) != 0 || h.Len(w) != 0 || h.Place(w) != -1 {
			t.Errorf("%d: Kind %d, Len %d, Place %d", w, h.Kind(w), h.Len(w), h.Place(w))
		}
	}
	for _, i := range []int{-1, 0, 1, 9, 1 << 62} {
		_, e := h.Get(s, i)
		want(t, "Get of bytes", e, ErrRaw)
		want(t, "Set of bytes", h.Set(s, i, 7), ErrRaw)
	}
	_, e = h.Bytes(c)
	want(t, "Bytes of fields", e, ErrRaw)
	for _, i := range []int{-1, 2, 3, 1 << 62, -1 << 63} {
		_, e := h.Get(c, i)
		want(t, "Get of no field", e, api.ErrRange)
		want(t, "Set of no field", h.Set(c, i, 7), api.ErrRange)
	}
	for _, w := range append(badWords(), Word(used)<<3|3, 59, 1<<63|3) {
		want(t, "Set to no word", h.Set(c, 1, w), ErrWord)
	}
	if w, _ := h.Get(c, 1); w != 0 {
		t.Errorf("errors made the field %d", w)
	}
	_, e = h.New(1, room-1)
	want(t, "New of all that is left", e, api.OK)
	_, e = h.New(1, 0)
	want(t, "New without room", e, api.ErrWords)
}

// P15.3: only the place of its header is that of an object, however long it is.
func TestPlaces(t *testing.T) {
	for _, length := range []int{0, 1, 50, 57, 58, 63, 64, 127, 128, 300} {
		h := newHeap(t, 1000, 1)
		a := object(t, h, KindVector, slices.Repeat([]Word{Nil}, length)...)
		b := raw(t, h, KindString, strings.Repeat("\x33\x00\x00\x00\x00\x00\x00\x00", length))
		for range 2 {
			objects := h.Objects()
			for place := range 1100 {
				w := Word(place)<<3 | 3
				wanted := -1
				if slices.Contains(objects, w) {
					wanted = place
				}
				if h.Place(w) != wanted || (h.Set(Nil, 2, w) == api.OK) != (wanted >= 0) {
					t.Errorf("Place(%d) = %d; want %d", w, h.Place(w), wanted)
				}
			}
			want(t, "Keep", h.Keep([]Word{b}, []Word{a}), api.OK)
			if h.Used() != 6+2*(1+length) {
				t.Errorf("Used %d", h.Used())
			}
			a, b = h.Objects()[1], h.Objects()[2]
		}
	}
}
