package heap

import "commonform/api"

// Cell is an object of a graph without addresses: its kind, its bytes, and its fields: immediate words, or indices of objects.
type Cell struct {
	Kind   int
	Raw    bool
	Bytes  string
	Fields []Field
}

// Field is an immediate word, or the index of an object (-1: none).
type Field struct {
	Word   Word
	Object int
}

const (
	maxCells    = 20000
	noObject    = -1 // the index of an immediate word
	firstObject = -2 // that of the first object, which has no cell
)

// graph has the objects that were met, in this order.
type graph struct {
	heap  *Heap
	met   map[Word]int // their indices
	cells []Cell
}

// Cells returns what some words have.
func (h *Heap) Cells(words []Word) ([]Cell, []Field, api.Errno) {
	if h.isNone() {
		return nil, nil, api.ErrArg
	}
	for _, w := range words {
		if !h.has(w) {
			return nil, nil, ErrWord
		}
	}
	g := graph{heap: h, met: map[Word]int{Nil: firstObject}}
	fields := g.fields(words)
	return g.cells, fields, api.OK
}

// fields returns what some words have, in order.
func (g *graph) fields(words []Word) []Field {
	var all []Field
	for _, w := range words {
		all = append(all, g.field(w))
	}
	return all
}

func (g *graph) field(w Word) Field {
	if !w.IsRef() {
		return Field{Word: w, Object: noObject}
	}
	index, there := g.met[w]
	if !there {
		index = g.meet(w)
	}
	return Field{Object: index}
}

// meet adds the cell of an object that was not met, and then those of all that is met from it.
func (g *graph) meet(w Word) int {
	at, _ := g.heap.find(w)
	x, index := g.heap.header(at), len(g.cells)
	g.met[w] = index
	g.cells = append(g.cells, Cell{Kind: x.kind, Raw: x.raw, Bytes: g.heap.bytes(at)})
	fields := g.fields(g.heap.fields(at))
	g.cells[index].Fields = fields
	return index
}

// Lay makes the objects of a graph.
func (h *Heap) Lay(cells []Cell, words []Field) ([]Word, api.Errno) {
	if h.isNone() || len(cells) > maxCells {
		return nil, api.ErrArg
	}
	used := len(h.words)
	for _, c := range cells {
		if e := c.check(len(cells)); e != api.OK {
			return nil, e
		}
		used += c.header().size()
	}
	if !areRight(words, len(cells)) {
		return nil, ErrWord
	}
	if used > h.limit {
		return nil, api.ErrWords
	}
	return h.lay(cells, words), api.OK
}

func (c Cell) header() header {
	if c.Raw {
		return header{kind: c.Kind, length: len(c.Bytes), raw: true}
	}
	return header{kind: c.Kind, length: len(c.Fields)}
}

// check returns the error of one of so many cells.
func (c Cell) check(cells int) api.Errno {
	if e := c.header().check(); e != api.OK {
		return e
	}
	if c.Raw && len(c.Fields) > 0 || !c.Raw && c.Bytes != "" {
		return ErrRaw
	}
	if !areRight(c.Fields, cells) {
		return ErrWord
	}
	return api.OK
}

// areRight reports whether fields of a graph with so many cells say words.
func areRight(fields []Field, cells int) bool {
	for _, f := range fields {
		if f.Object == noObject && !f.Word.isImmediate() || f.Object != noObject && f.Word != 0 {
			return false
		}
		if f.Object < firstObject || f.Object >= cells {
			return false
		}
	}
	return true
}

// lay makes objects for which there is room.
func (h *Heap) lay(cells []Cell, words []Field) []Word {
	made := make([]Word, 0, len(cells))
	for _, c := range cells {
		made = append(made, h.add(c.header()))
	}
	fill := func(to []Word, from []Field) {
		for i, f := range from {
			to[i] = f.word(made)
		}
	}
	for i, c := range cells {
		if c.Raw {
			h.write(made[i], c.Bytes)
			continue
		}
		at, _ := h.find(made[i])
		fill(h.content(at), c.Fields)
	}
	laid := make([]Word, len(words))
	fill(laid, words)
	return laid
}

// word returns the word that a field says, where the objects were made.
func (f Field) word(made []Word) Word {
	switch f.Object {
	case noObject:
		return f.Word
	case firstObject:
		return Nil
	}
	return made[f.Object]
}
