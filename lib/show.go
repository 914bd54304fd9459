package lib

import (
	"strconv"
	"strings"

	"commonform/api"
	"commonform/forms"
	"commonform/heap"
)

// Home of the symbols that stand for what has no form.
const noForm = "%"

// Show returns the form of an object.
func (w *World) Show(x heap.Word) (api.Form, api.Errno) {
	switch {
	case w.isNone():
		return api.Form{}, api.ErrArg
	case w.isBad(x):
		return api.Form{}, heap.ErrWord
	}
	s := shower{world: w, places: map[heap.Word]int{}, labels: map[heap.Word]string{}, left: api.MaxForm}
	if !s.meet(x, 1) {
		return api.Form{}, api.ErrSize
	}
	f := s.form(x)
	if forms.Check(f) != api.OK {
		return api.Form{}, api.ErrSize
	}
	return f, api.OK
}

// isBad reports whether a word is bad, or a reference to no object.
func (w *World) isBad(x heap.Word) bool {
	_, isFixnum := x.Fixnum()
	_, isCharacter := x.Character()
	return !isFixnum && !isCharacter && x != heap.Unbound && w.heap.Place(x) < 0
}

// shower makes the form of an object that was met: first it counts the places of all objects, and then it writes those that have several with labels.
type shower struct {
	world  *World
	left   int // how many more parts a form may have
	places map[heap.Word]int
	labels map[heap.Word]string
}

// hasIdentity tells the objects that may have labels.
func (s *shower) hasIdentity(x heap.Word) bool {
	switch s.world.heap.Kind(x) {
	case heap.KindString, heap.KindBits, heap.KindCons, heap.KindVector, heap.KindArray:
		return true
	}
	return false
}

// meet counts the places of an object and of all that is met from it. It reports whether the form can be right, and looks no further if not.
func (s *shower) meet(x heap.Word, depth int) bool {
	for {
		if depth > api.MaxDepth {
			return false
		}
		if !s.hasIdentity(x) {
			return true
		}
		s.places[x]++
		if s.places[x] > 1 {
			return true
		}
		parts, next, hasNext := s.parts(x)
		s.left -= len(parts)
		if s.left < 0 {
			return false
		}
		for _, part := range parts {
			if !s.meet(part, depth+1) {
				return false
			}
		}
		if !hasNext {
			return true
		}
		x = next // not deeper: the form of a list is flat
	}
}

// parts returns the parts of an object, and the cdr of a cons.
func (s *shower) parts(x heap.Word) (parts []heap.Word, next heap.Word, hasNext bool) {
	w := s.world
	switch {
	case w.isCons(x):
		return []heap.Word{w.car(x)}, w.cdr(x), true
	case w.isVector(x):
		return w.fields(x), 0, false
	case w.isArray(x):
		_, elements := w.arrayParts(x)
		return w.fields(elements), 0, false
	}
	return nil, 0, false
}

// form returns the form of an object in one of its places.
func (s *shower) form(x heap.Word) api.Form {
	if s.places[x] < 2 {
		return s.body(x)
	}
	label, ok := s.labels[x]
	if ok {
		return api.Form{Kind: api.FormRef, Text: label}
	}
	label = strconv.Itoa(len(s.labels))
	s.labels[x] = label
	return api.Form{Kind: api.FormLabel, Text: label, Kids: []api.Form{s.body(x)}}
}

// body returns the form of an object without its label. What is not made as it should be gets a form that is not right.
func (s *shower) body(x heap.Word) api.Form {
	w := s.world
	if w.isNumber(x) {
		f, _ := w.number(x)
		return f
	}
	kind := w.heap.Kind(x)
	switch {
	case w.isCons(x):
		return s.list(x)
	case w.isVector(x):
		return api.Form{Kind: api.FormVector, Kids: s.forms(x)}
	case w.isArray(x):
		dims, elements := w.arrayParts(x)
		return api.Form{Kind: api.FormArray, Text: w.dimensionText(dims), Kids: s.forms(elements)}
	case w.isRaw(x) && (kind == heap.KindString || kind == heap.KindBits):
		return api.Form{Kind: kind, Text: w.text(x)}
	case s.hasIdentity(x):
		return api.Form{}
	}
	return w.named(x)
}

func (s *shower) forms(x heap.Word) []api.Form {
	var all []api.Form
	for _, part := range s.world.fields(x) {
		all = append(all, s.form(part))
	}
	return all
}

// list returns the form of a cons with those behind it that have no other place.
func (s *shower) list(x heap.Word) api.Form {
	var kids []api.Form
	for {
		kids = append(kids, s.form(s.world.car(x)))
		x = s.world.cdr(x)
		if !s.world.isCons(x) || s.places[x] > 1 {
			break
		}
	}
	return api.Form{Kind: api.FormCons, Kids: append(kids, s.form(x))}
}

// dimensionText returns the Text of an array.
func (w *World) dimensionText(dims heap.Word) string {
	var words []string
	for _, x := range w.fields(dims) {
		n, _ := x.Fixnum()
		words = append(words, strconv.FormatInt(n, 10))
	}
	return strings.Join(words, " ")
}
