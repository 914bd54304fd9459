package table

import (
	"strconv"

	"commonform/api"
	"commonform/heap"
	"commonform/number"
)

// hasFields reports whether a word refers to an object with fields.
func hasFields(h *heap.Heap, w heap.Word) bool {
	_, e := h.Get(w, 0)
	return e == api.OK || e == api.ErrRange
}

// isNumeric reports whether a word is a fixnum, or an object of a kind that numbers have.
func isNumeric(h *heap.Heap, w heap.Word) bool {
	_, isFixnum := w.Fixnum()
	kind := h.Kind(w)
	return isFixnum || kind >= heap.KindInt && kind <= heap.KindComplex
}

// formOf returns the form of a word that is made as numbers are; whether it is one is not looked at.
func formOf(h *heap.Heap, w heap.Word) (api.Form, bool) {
	if h.Kind(w) != heap.KindComplex {
		return realForm(h, w)
	}
	if !hasFields(h, w) || h.Len(w) != 2 {
		return api.Form{}, false
	}
	made := api.Form{Kind: heap.KindComplex}
	for i := range 2 {
		part, _ := h.Get(w, i)
		form, ok := realForm(h, part)
		if !ok {
			return api.Form{}, false
		}
		made.Kids = append(made.Kids, form)
	}
	return made, true
}

func realForm(h *heap.Heap, w heap.Word) (api.Form, bool) {
	if n, ok := w.Fixnum(); ok {
		return api.Form{Kind: api.FormInt, Text: strconv.FormatInt(n, 10)}, true
	}
	kind := h.Kind(w)
	if kind < heap.KindInt || kind > heap.KindDouble {
		return api.Form{}, false
	}
	text, e := h.Bytes(w)
	return api.Form{Kind: kind, Text: text}, e == api.OK
}

// isExact tells the forms of which only those with the same text are equal.
func isExact(x api.Form) bool { return x.Kind == api.FormInt || x.Kind == api.FormRatio }

// exactText returns the same text for all real numbers with the same value.
func exactText(x api.Form) string {
	if isExact(x) {
		return x.Text
	}
	value, e := number.Rational(x)
	if e != api.OK {
		return x.Text
	}
	return value.Text
}

// fold returns a character with a small letter for a great one.
func fold(w heap.Word) heap.Word {
	c, ok := w.Character()
	if !ok || c < 'A' || c > 'Z' {
		return w
	}
	small, _ := heap.Char(c - 'A' + 'a')
	return small
}

// parts are the words that decide which objects are the same as one: others of the same shape whose parts are the same.
type parts struct {
	heap   *heap.Heap
	isCons bool
	dims   heap.Word   // the vector of the dimensions, 0 for one dimension
	fields heap.Word   // the object whose fields are the parts, 0 for none
	made   []heap.Word // otherwise the parts themselves
	size   int
}

// partsOf returns the parts of a word that has some by a test.
func partsOf(h *heap.Heap, test int, w heap.Word) (parts, bool) {
	kind := h.Kind(w)
	if kind == heap.KindCons {
		return parts{heap: h, isCons: true, fields: w, size: 2}, test >= EqualTest && h.Len(w) == 2 && hasFields(h, w)
	}
	if test != EqualpTest {
		return parts{}, false
	}
	switch kind {
	case heap.KindString, heap.KindBits:
		text, e := h.Bytes(w)
		made := elements(kind, text)
		return parts{made: made, size: len(made)}, e == api.OK
	case heap.KindVector:
		return parts{heap: h, fields: w, size: h.Len(w)}, hasFields(h, w)
	case heap.KindArray:
		return arrayParts(h, w)
	}
	return parts{}, false
}

// elements returns the elements of a string, or of bits.
func elements(kind int, text string) []heap.Word {
	var all []heap.Word
	if kind == heap.KindString {
		for _, c := range text { // a byte that is no UTF-8 is the character 65533
			element, _ := heap.Char(c)
			all = append(all, element)
		}
		return all
	}
	for _, b := range []byte(text) {
		bit := int64(0)
		if b == '1' {
			bit = 1
		}
		element, _ := heap.Fix(bit)
		all = append(all, element)
	}
	return all
}

func arrayParts(h *heap.Heap, w heap.Word) (parts, bool) {
	if h.Len(w) != 2 || !hasFields(h, w) {
		return parts{}, false
	}
	dims, _ := h.Get(w, 0)
	fields, _ := h.Get(w, 1)
	for _, v := range []heap.Word{dims, fields} {
		if h.Kind(v) != heap.KindVector || !hasFields(h, v) {
			return parts{}, false
		}
	}
	return parts{heap: h, dims: dims, fields: fields, size: h.Len(fields)}, true
}

// at returns a part.
func (p parts) at(i int) heap.Word {
	if p.fields == 0 {
		return p.made[i]
	}
	w, _ := p.heap.Get(p.fields, i)
	return w
}

// rank returns the number of dimensions, 0 for a cons.
func (p parts) rank() int {
	switch {
	case p.isCons:
		return 0
	case p.dims == 0:
		return 1
	}
	return p.heap.Len(p.dims)
}

func (p parts) dimension(i int) heap.Word {
	if p.dims == 0 {
		w, _ := heap.Fix(int64(p.size))
		return w
	}
	w, _ := p.heap.Get(p.dims, i)
	return w
}

// isLike reports whether the shapes are the same.
func (p parts) isLike(q parts) bool {
	if p.isCons != q.isCons || p.size != q.size || p.rank() != q.rank() {
		return false
	}
	for i := range p.rank() {
		if p.dimension(i) != q.dimension(i) {
			return false
		}
	}
	return true
}
