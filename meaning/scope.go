package meaning

import (
	"commonform/heap"
)

// scope is the environment of a run: the cell of a variable, or the number of a block or a tagbody that was begun, and what is around. A closure has what it takes of it as a list of the heap, so that it takes no more words than it needs.
type scope struct {
	key   int
	word  heap.Word
	outer *scope
}

func (s *scope) with(key int, word heap.Word) *scope {
	return &scope{key: key, word: word, outer: s}
}

// find returns what a key has; Unbound, if somebody has made an environment without it.
func (s *scope) find(key int) heap.Word {
	for ; s != nil; s = s.outer {
		if s.key == key {
			return s.word
		}
	}
	return heap.Unbound
}

// bind makes a new cell for a variable.
func (r *run) bind(s *scope, variable int, value heap.Word) *scope {
	return s.with(variable, r.object(heap.KindBox, value))
}

// closure returns a new closure of a Lambda.
func (r *run) closure(n *node, s *scope) heap.Word {
	index, _ := heap.Fix(int64(r.trees.indexOf(n)))
	x := r.object(heap.KindClosure, index, heap.Nil)
	var entries []heap.Word
	for _, key := range n.captured {
		number, _ := heap.Fix(int64(key))
		entries = append(entries, r.object(heap.KindCons, number, s.find(key)))
	}
	r.heap.Set(x, 1, r.list(entries))
	return x
}

// scopeOf returns the environment that a list of the heap says.
func (r *run) scopeOf(list heap.Word) *scope {
	var s *scope
	for range r.heap.Used() { // a list that somebody else has made may be a circle
		if r.heap.Kind(list) != heap.KindCons {
			break
		}
		entry := r.get(list, 0)
		if key, ok := r.get(entry, 0).Fixnum(); ok {
			s = s.with(int(key), r.get(entry, 1))
		}
		list = r.get(list, 1)
	}
	return s
}
