package heap

import (
	"slices"
	"strings"
	"testing"

	"commonform/api"
)

// P15.1: the objects of a graph in the order in which they are met.
func TestCells(t *testing.T) {
	h := newHeap(t, 100, 100)
	s := raw(t, h, KindString, "ab")
	inner := object(t, h, KindBox, s)
	tail := object(t, h, KindCons, Nil, s)
	c := object(t, h, KindCons, inner, tail)
	want(t, "Set", h.Set(Nil, 2, object(t, h, KindBox, 0)), api.OK)
	cells, fields, e := h.Cells([]Word{8, tail, c, Nil, Unbound, s})
	wanted := []Cell{
		{Kind: KindCons, Fields: []Field{{Object: -2}, {Object: 1}}},
		{Kind: KindString, Raw: true, Bytes: "ab"},
		{Kind: KindCons, Fields: []Field{{Object: 3}, {Object: 0}}},
		{Kind: KindBox, Fields: []Field{{Object: 1}}},
	}
	if e != api.OK || !sameCells(cells, wanted) {
		t.Errorf("Cells = %v, %v; want %v", cells, e, wanted)
	}
	if !sameFields(fields, []Field{{Word: 8, Object: -1}, {Object: 0}, {Object: 2}, {Object: -2}, {Word: 2, Object: -1}, {Object: 1}}) {
		t.Errorf("the words are %v", fields)
	}
	if cells, fields, e := h.Cells(nil); e != api.OK || len(cells) > 0 || len(fields) > 0 {
		t.Errorf("Cells of nothing: %v, %v, %v", cells, fields, e)
	}
	for _, w := range append(badWords(), 59, 1<<63|3) {
		if cells, fields, e := h.Cells([]Word{c, 0, w, c}); e != ErrWord || cells != nil || fields != nil {
			t.Errorf("Cells with %d: %v, %v, %v", w, cells, fields, e)
		}
	}
	deep := Nil
	h = newHeap(t, 65536, 1)
	for range 32765 {
		deep = object(t, h, KindBox, deep)
	}
	if cells, _, e := h.Cells([]Word{deep}); e != api.OK || len(cells) != 32765 {
		t.Errorf("a deep graph has %d cells, %v", len(cells), e)
	}
}

// P15.1: objects that are laid are young, stand behind all others, in the order of their cells.
func TestLay(t *testing.T) {
	h := newHeap(t, 64, 64)
	object(t, h, KindBox, 0)
	cells := []Cell{
		{Kind: KindVector, Fields: []Field{{Object: 2}, {Word: 8, Object: -1}, {Object: -2}}},
		{Kind: KindBits, Raw: true, Bytes: "0123456789"},
		{Kind: KindBox, Fields: []Field{{Object: 2}}},
		{Kind: KindString, Raw: true},
		{Kind: KindVector},
	}
	words, e := h.Lay(cells, []Field{{Object: 1}, {Word: Unbound, Object: -1}, {Object: -2}, {Object: 0}, {Object: 0}})
	if e != api.OK || !slices.Equal(words, []Word{99, Unbound, Nil, 67, 67}) {
		t.Errorf("Lay = %v, %v", words, e)
	}
	if !slices.Equal(h.Objects(), []Word{Nil, 51, 67, 99, 123, 139, 147}) || h.Used() != 19 || h.Old() != 6 {
		t.Errorf("Objects %v, Used %d, Old %d", h.Objects(), h.Used(), h.Old())
	}
	for i, wanted := range []Word{123, 8, Nil} {
		if w, e := h.Get(67, i); w != wanted || e != api.OK {
			t.Errorf("Get(67, %d) = %d, %v; want %d", i, w, e, wanted)
		}
	}
	if text, e := h.Bytes(99); text != "0123456789" || e != api.OK {
		t.Errorf("Bytes = %q, %v", text, e)
	}
	if _, e := h.Bytes(147); e != ErrRaw {
		t.Errorf("an object without fields has bytes: %v", e)
	}
	if words, e := h.Lay(nil, nil); e != api.OK || len(words) > 0 || h.Used() != 19 {
		t.Errorf("Lay of nothing: %v, %v", words, e)
	}
}

// P15.1: errors of Lay, in their order, change nothing.
func TestLayErrors(t *testing.T) {
	h := newHeap(t, 64, 64)
	ok, bad := Field{Word: 8, Object: -1}, Field{Word: 7, Object: -1}
	box := func(fields ...Field) Cell { return Cell{Kind: KindBox, Fields: fields} }
	much := slices.Repeat([]Field{ok}, 16385)
	for _, x := range []struct {
		cells  []Cell
		words  []Field
		wanted api.Errno
	}{
		{slices.Repeat([]Cell{{Kind: 99}}, 20001), nil, api.ErrArg},
		{slices.Repeat([]Cell{{Kind: 1}}, 20000), nil, api.ErrWords},
		{slices.Repeat([]Cell{{Kind: 1}}, 20000), []Field{bad}, ErrWord},
		{[]Cell{{Kind: 0}}, nil, api.ErrArg},
		{[]Cell{{Kind: 32, Raw: true}}, nil, api.ErrArg},
		{[]Cell{box(ok), {Kind: 1, Fields: much}}, nil, api.ErrArg},
		{[]Cell{{Kind: 1, Fields: much[1:]}}, nil, api.ErrWords},
		{[]Cell{{Kind: 1, Raw: true, Bytes: strings.Repeat("x", 131073)}}, nil, api.ErrArg},
		{[]Cell{{Kind: 1, Raw: true, Bytes: strings.Repeat("x", 131072)}}, nil, api.ErrWords},
		{[]Cell{{Kind: 1, Raw: true, Fields: much}}, nil, ErrRaw},
		{[]Cell{{Kind: 1, Raw: true, Bytes: "x", Fields: []Field{bad}}}, nil, ErrRaw},
		{[]Cell{{Kind: 1, Bytes: "x"}}, nil, ErrRaw},
		{[]Cell{{Kind: 1, Bytes: strings.Repeat("x", 131073)}}, nil, ErrRaw},
		{[]Cell{{Kind: 0, Bytes: "x"}}, nil, api.ErrArg},
		{[]Cell{box(bad), {Kind: 0}}, nil, ErrWord},
		{[]Cell{{Kind: 1, Bytes: "x"}, box(bad)}, nil, ErrRaw},
		{[]Cell{box(ok, bad)}, nil, ErrWord},
		{[]Cell{box(Field{Word: 3, Object: -1})}, nil, ErrWord},
		{[]Cell{box(Field{Word: 8, Object: 0})}, nil, ErrWord},
		{[]Cell{box(Field{Word: 3, Object: -2})}, nil, ErrWord},
		{[]Cell{box(Field{Object: 1})}, nil, ErrWord},
		{[]Cell{box(Field{Object: -3})}, nil, ErrWord},
		{[]Cell{box(Field{Object: 1 << 62})}, nil, ErrWord},
		{nil, []Field{{Object: 0}}, ErrWord},
		{nil, []Field{ok, bad}, ErrWord},
		{[]Cell{box(ok)}, []Field{{Object: 1}}, ErrWord},
		{slices.Repeat([]Cell{box(ok)}, 30), []Field{ok}, api.ErrWords},
	} {
		words, e := h.Lay(x.cells, x.words)
		if e != x.wanted || words != nil {
			t.Errorf("Lay of %d cells and %v: %v, %v; want %v", len(x.cells), x.words, words, e, x.wanted)
		}
	}
	if h.Used() != 6 {
		t.Errorf("errors took %d words", h.Used()-6)
	}
	if _, e := h.Lay(slices.Repeat([]Cell{box(Field{Object: 28})}, 29), nil); e != api.OK || h.Used() != 64 {
		t.Errorf("Lay of all that has room: %v, Used %d", e, h.Used())
	}
}

// R4: neither results nor arguments share memory with the heap.
func TestGraphMemory(t *testing.T) {
	h := newHeap(t, 100, 100)
	c := object(t, h, KindCons, 8, Nil)
	cells, fields, _ := h.Cells([]Word{c, c})
	cells[0].Fields[0].Word, fields[0].Object = 80, 9
	again, behind, _ := h.Cells([]Word{c, c})
	if again[0].Fields[0].Word != 8 || behind[0].Object != 0 || fields[1].Object != 0 {
		t.Errorf("Cells = %v, %v behind a change of the lists", again, behind)
	}
	words, _ := h.Lay(again, behind)
	again[0].Fields[0].Word = 80
	if w, _ := h.Get(words[0], 0); w != 8 {
		t.Errorf("the field is %d behind a change of the cell", w)
	}
	objects := h.Objects()
	objects[0] = 0
	if !slices.Equal(h.Objects(), []Word{Nil, 51, 75}) {
		t.Errorf("Objects = %v", h.Objects())
	}
}
