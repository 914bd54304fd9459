// Package tree copies forms, for the layers whose results share no memory with arguments.
package tree

import "commonform/api"

// Copy returns a copy of a tree, with lists of its own.
func Copy(f api.Form) api.Form {
	f.Kids = Copies(f.Kids)
	return f
}

// Copies returns a list of copies: nil, if there are none.
func Copies(l []api.Form) []api.Form {
	if len(l) == 0 {
		return nil
	}
	made := make([]api.Form, 0, len(l))
	for _, f := range l {
		made = append(made, Copy(f))
	}
	return made
}
