package collect

import (
	"math/rand"
	"slices"
	"testing"

	"commonform/api"
	"commonform/heap"
)

// P16.1 to P16.5: whatever is done with a heap, collections keep what a simple search finds.
func TestLikeTheSearch(t *testing.T) {
	for seed := range int64(300) {
		r := rand.New(rand.NewSource(seed))
		y := follow(t, 200, 60)
		for range 120 {
			y.step(r)
		}
	}
}

// P16.2, P16.3: behind Major a second one lets nothing go, and behind both all is old.
func TestMajorTwice(t *testing.T) {
	for seed := range int64(200) {
		r := rand.New(rand.NewSource(seed))
		y := follow(t, 200, 60)
		for range 60 {
			y.step(r)
		}
		y.collect(true)
		used := y.h.Used()
		y.collect(true)
		if y.h.Used() != used || y.h.Old() != used {
			t.Fatalf("Used %d, then %d; Old %d", used, y.h.Used(), y.h.Old())
		}
		if l := y.c.Live(); !slices.Equal(l, y.h.Objects()) {
			t.Fatalf("Live = %v of %v", l, y.h.Objects())
		}
	}
}

// perform runs a program that knows objects by roots alone, with collections at any places or without, and returns the graph of the roots.
func perform(t *testing.T, seed int64, collections func(*Collector)) ([]heap.Cell, []heap.Field) {
	t.Helper()
	r := rand.New(rand.NewSource(seed))
	h, c := start(t, 20000, 40)
	for range 8 {
		h.Root(heap.Nil)
	}
	for range 300 {
		collections(c)
		a, b := at(t, h, r.Intn(8)), at(t, h, r.Intn(8))
		i, to := r.Intn(3), r.Intn(8)
		switch r.Intn(6) {
		case 0, 1:
			w, e := h.New([]int{heap.KindCons, heap.KindVector, heap.KindTable}[r.Intn(3)], r.Intn(4))
			want(t, "New", e, api.OK)
			h.Put(to, w)
		case 2:
			w, e := h.Raw(heap.KindString, "0123456789"[:r.Intn(10)])
			want(t, "Raw", e, api.OK)
			h.Put(to, w)
		case 3, 4:
			h.Set(a, i, b)
		case 5:
			if x, e := h.Get(a, i); e == api.OK {
				h.Put(to, x)
			}
		}
	}
	var words []heap.Word
	for i := range 8 {
		words = append(words, at(t, h, i))
	}
	cells, fields, e := h.Cells(words)
	want(t, "Cells", e, api.OK)
	return cells, fields
}

// P16.6.
func TestWhen(t *testing.T) {
	all := 0
	for seed := range int64(60) {
		cells, fields := perform(t, seed, func(*Collector) {})
		all += len(cells)
		chance := rand.New(rand.NewSource(seed))
		for i, collections := range []func(*Collector){
			func(c *Collector) { c.Minor() },
			func(c *Collector) { c.Major() },
			func(c *Collector) { c.Step() },
			func(c *Collector) {
				switch chance.Intn(6) {
				case 0:
					c.Minor()
				case 1:
					c.Major()
				}
			},
		} {
			others, behind := perform(t, seed, collections)
			isSame := func(x, y heap.Cell) bool {
				return x.Kind == y.Kind && x.Raw == y.Raw && x.Bytes == y.Bytes && slices.Equal(x.Fields, y.Fields)
			}
			if !slices.EqualFunc(cells, others, isSame) || !slices.Equal(fields, behind) {
				t.Fatalf("seed %d, way %d: %v, %v; want %v, %v", seed, i, others, behind, cells, fields)
			}
		}
	}
	if all < 300 {
		t.Errorf("only %d cells", all)
	}
}

// P16.1: a chain of ephemerons, each of which holds the key of the next one, in both orders.
func TestChain(t *testing.T) {
	for _, isForward := range []bool{true, false} {
		h, c := start(t, 65536, 1)
		const length = 8000
		var keys []heap.Word
		for range length {
			keys = append(keys, object(t, h, heap.KindBox, 0))
		}
		h.Root(keys[0])
		list := heap.Nil
		for i := range length - 1 {
			k := i
			if isForward {
				k = length - 2 - i
			}
			list = object(t, h, heap.KindEphemeron, keys[k], keys[k+1], list)
		}
		h.Root(list)
		if r, e := c.Major(); e != api.OK || r.Lost != 0 || r.After != r.Before {
			t.Errorf("Major: %+v, %v", r, e)
		}
		h.Drop(0)
		if r, e := c.Major(); e != api.OK || r.Lost != length-1 {
			t.Errorf("Major: %+v, %v", r, e)
		}
	}
}
