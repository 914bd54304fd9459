package forms

import (
	"iter"

	"commonform/api"
)

// walk comes to the nodes of a tree one by one, to each ahead of its Kids, and tells their depths.
func walk(f api.Form) iter.Seq2[int, api.Form] {
	return func(yield func(int, api.Form) bool) {
		visit(f, 1, yield)
	}
}

// visit reports whether the walk is to go on. It goes no deeper than the caller follows, so that a walk that is left early ends in any tree.
func visit(f api.Form, depth int, yield func(int, api.Form) bool) bool {
	if !yield(depth, f) {
		return false
	}
	for _, kid := range f.Kids {
		if !visit(kid, depth+1, yield) {
			return false
		}
	}
	return true
}
