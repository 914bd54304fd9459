package lib

import (
	"strconv"
	"strings"
	"unicode/utf8"

	"commonform/api"
	"commonform/forms"
	"commonform/heap"
	"commonform/symbols"
)

const (
	maxBytes    = 131072 // of an object of the heap
	arrayFields = 2      // the vector of the dimensions, and that of the elements
	consSize    = 3      // words
)

// Build makes the object of a form.
func (w *World) Build(f api.Form) (heap.Word, api.Errno) {
	if w.isNone() {
		return 0, api.ErrArg
	}
	if e := forms.Check(f); e != api.OK {
		return 0, e
	}
	p := plan{world: w, counted: map[unmade]bool{}}
	if e := p.symbols(f); e != api.OK {
		return 0, e
	}
	p.objects(f)
	switch {
	case p.isTooLong || !w.hasRoom(p.words):
		return 0, api.ErrWords
	case p.made > w.free():
		return 0, api.ErrFull
	}
	m := maker{world: w, labels: map[string]heap.Word{}, fresh: map[string]heap.Word{}}
	return m.object(f, ""), api.OK
}

// plan tells what the objects of a form need, ahead of all changes.
type plan struct {
	world     *World
	words     int
	made      int // symbols that the table has not
	counted   map[unmade]bool
	isTooLong bool // there is an object that no heap can have
}

// unmade is a symbol that has no object: one that the table has by its number, all others by their names and packages.
type unmade struct {
	number     int
	home, name string
}

// symbols counts the symbols of a form, and returns the first error of one.
func (p *plan) symbols(f api.Form) api.Errno {
	if f.Kind == api.FormSymbol {
		return p.symbol(f)
	}
	for _, kid := range f.Kids {
		if e := p.symbols(kid); e != api.OK {
			return e
		}
	}
	return api.OK
}

func (p *plan) symbol(f api.Form) api.Errno {
	switch {
	case len(f.Text) > api.MaxName:
		return api.ErrSize
	case f.Home == "":
		p.count(unmade{number: noSymbol, name: f.Text})
		return api.OK
	}
	t := p.world.table
	number, status, e := t.Find(f.Home, f.Text)
	if e != api.OK {
		return e
	}
	if status == symbols.None { // two names of a package mean the same symbol
		pack, _ := t.Package(f.Home)
		p.count(unmade{number: noSymbol, home: pack.Name, name: f.Text})
		return api.OK
	}
	if _, ok := p.world.known(number); !ok {
		p.count(unmade{number: number, name: f.Text})
	}
	return api.OK
}

// count counts a symbol once.
func (p *plan) count(x unmade) {
	if p.counted[x] {
		return
	}
	p.counted[x] = true
	p.words += symbolSize(x.name)
	if x.number == noSymbol {
		p.made++
	}
}

// objects counts the words of all other objects.
func (p *plan) objects(f api.Form) {
	switch f.Kind {
	case api.FormInt, api.FormRatio, api.FormSingle, api.FormDouble, api.FormString, api.FormBits:
		if _, ok := fixnumOf(f); !ok {
			p.words += rawSize(len(f.Text))
			p.isTooLong = p.isTooLong || len(f.Text) > maxBytes
		}
	case api.FormCons:
		p.words += consSize * (len(f.Kids) - 1)
	case api.FormVector, api.FormComplex:
		p.words += 1 + len(f.Kids)
	case api.FormArray:
		p.words += 1 + arrayFields + 1 + len(dimensionsOf(f)) + 1 + len(f.Kids)
	}
	for _, kid := range f.Kids {
		p.objects(kid)
	}
}

// fixnumOf returns the fixnum of a form, if it is one.
func fixnumOf(f api.Form) (heap.Word, bool) {
	if f.Kind != api.FormInt {
		return 0, false
	}
	n, err := strconv.ParseInt(f.Text, 10, 64)
	if err != nil {
		return 0, false
	}
	x, e := heap.Fix(n)
	return x, e == api.OK
}

// dimensionsOf returns those of a FormArray in a right form.
func dimensionsOf(f api.Form) []int {
	var all []int
	for part := range strings.FieldsSeq(f.Text) {
		n, _ := strconv.Atoi(part)
		all = append(all, n)
	}
	return all
}

// maker makes objects for which there is room.
type maker struct {
	world  *World
	labels map[string]heap.Word
	fresh  map[string]heap.Word // the symbols without a home, by their names
}

// object returns the object of a form that has a label ("": none). It is known by the label ahead of its parts, which may refer to it.
func (m *maker) object(f api.Form, label string) heap.Word {
	h := m.world.heap
	switch f.Kind {
	case api.FormRef:
		return m.labels[f.Text]
	case api.FormLabel:
		return m.object(f.Kids[0], f.Text)
	case api.FormCons:
		return m.list(f.Kids, label)
	case api.FormVector, api.FormComplex:
		x, _ := h.New(f.Kind, len(f.Kids))
		m.labels[label] = x
		m.fill(x, f.Kids)
		return x
	case api.FormArray:
		return m.array(f, label)
	}
	x := m.atom(f)
	m.labels[label] = x
	return x
}

func (m *maker) fill(x heap.Word, parts []api.Form) {
	for i, part := range parts {
		m.world.heap.Set(x, i, m.object(part, ""))
	}
}

func (m *maker) list(kids []api.Form, label string) heap.Word {
	h, last := m.world.heap, len(kids)-1
	first, _ := h.New(heap.KindCons, 2)
	m.labels[label] = first
	at := first
	for i, kid := range kids[:last] {
		if i > 0 {
			next, _ := h.New(heap.KindCons, 2)
			h.Set(at, 1, next)
			at = next
		}
		h.Set(at, 0, m.object(kid, ""))
	}
	h.Set(at, 1, m.object(kids[last], ""))
	return first
}

func (m *maker) array(f api.Form, label string) heap.Word {
	h, dims := m.world.heap, dimensionsOf(f)
	x, _ := h.New(heap.KindArray, arrayFields)
	m.labels[label] = x
	v, _ := h.New(heap.KindVector, len(dims))
	for i, n := range dims {
		h.Set(v, i, fixnum(n))
	}
	elements, _ := h.New(heap.KindVector, len(f.Kids))
	h.Set(x, 0, v)
	h.Set(x, 1, elements)
	m.fill(elements, f.Kids)
	return x
}

// atom returns the object of a form that has no parts.
func (m *maker) atom(f api.Form) heap.Word {
	if f.Kind == api.FormSymbol {
		return m.symbol(f)
	}
	if f.Kind == api.FormChar {
		c, _ := utf8.DecodeRuneInString(f.Text)
		x, _ := heap.Char(c)
		return x
	}
	if x, ok := fixnumOf(f); ok {
		return x
	}
	x, _ := m.world.heap.Raw(f.Kind, f.Text)
	return x
}

func (m *maker) symbol(f api.Form) heap.Word {
	if f.Home != "" {
		x, _ := m.world.Symbol(f.Home, f.Text)
		return x
	}
	x, ok := m.fresh[f.Text]
	if !ok {
		x, _ = m.world.fresh(f.Text)
		m.fresh[f.Text] = x
	}
	return x
}
