package heap

import (
	"slices"

	"commonform/api"
)

// Keep lays some objects anew as old ones, and some as young ones; all others are gone.
func (h *Heap) Keep(old, young []Word) api.Errno {
	if h.isNone() {
		return api.ErrArg
	}
	var (
		next  = Heap{words: make([]Word, 0, len(h.words)), begins: make([]uint64, 0, len(h.begins))}
		moved = make([]Word, len(h.words)) // the new references by the old places; 0: none
	)
	for i, w := range slices.Concat([]Word{Nil}, old, young) {
		at, ok := h.find(w)
		switch {
		case !ok:
			return ErrWord
		case moved[at] != 0:
			return api.ErrTwice
		}
		moved[at] = next.copy(h.words[at : at+h.header(at).size()])
		if i == len(old) { // the first object stands ahead of them
			next.old = len(next.words)
		}
	}
	h.words, h.begins, h.old = next.words, next.begins, next.old
	h.redirect(moved)
	h.moves++
	return api.OK
}

// copy adds a copy of an object, all whose words are given.
func (h *Heap) copy(object []Word) Word {
	at := len(h.words)
	h.words = append(h.words, object...)
	h.begin(at)
	return reference(at)
}

// redirect changes all references from old places to new ones.
func (h *Heap) redirect(moved []Word) {
	change := func(w *Word) {
		if !w.IsRef() {
			return
		}
		*w = moved[*w>>tagBits]
		if *w == 0 {
			*w = Unbound
		}
	}
	for at := range h.objects(len(h.words)) {
		fields := h.fields(at)
		for i := range fields {
			change(&fields[i])
		}
	}
	for i := range h.roots {
		change(&h.roots[i].word)
	}
}
