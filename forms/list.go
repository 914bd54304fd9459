package forms

import (
	"unicode/utf8"

	"commonform/api"
	"commonform/tree"
)

// List returns a proper list.
func List(l []api.Form) api.Form { return join(tree.Copies(l), Nil()) }

// Dotted returns a list with a tail.
func Dotted(l []api.Form, tail api.Form) api.Form { return join(tree.Copies(l), tree.Copy(tail)) }

// Call returns the list of a symbol of COMMON-LISP and its arguments.
func Call(name string, l []api.Form) api.Form {
	items := append([]api.Form{Symbol(nilHome, name)}, tree.Copies(l)...)
	return join(items, Nil())
}

// join makes a list of elements and a tail that nothing else has, so that both may go into it.
func join(l []api.Form, tail api.Form) api.Form {
	if len(l) == 0 {
		return tail
	}
	kids := make([]api.Form, 0, len(l)+1)
	kids = append(kids, l...)
	if tail.Kind == api.FormCons {
		kids = append(kids, tail.Kids...)
	} else {
		kids = append(kids, tail)
	}
	return api.Form{Kind: api.FormCons, Kids: kids}
}

// isList reports whether a tree is a cons with at least one element and a tail.
func isList(f api.Form) bool { return f.Kind == api.FormCons && len(f.Kids) >= 2 }

// Items returns the elements of a proper list.
func Items(f api.Form) ([]api.Form, bool) {
	if IsNil(f) {
		return nil, true
	}
	if !isList(f) || !IsNil(f.Kids[len(f.Kids)-1]) {
		return nil, false
	}
	return tree.Copies(f.Kids[:len(f.Kids)-1]), true
}

// Spread returns the elements of a list, and its tail.
func Spread(f api.Form) ([]api.Form, api.Form) {
	if !isList(f) {
		return nil, tree.Copy(f)
	}
	last := len(f.Kids) - 1
	return tree.Copies(f.Kids[:last]), tree.Copy(f.Kids[last])
}

// Dimensions returns the dimensions of an array.
func Dimensions(f api.Form) ([]int, api.Errno) {
	switch f.Kind {
	case api.FormString, api.FormBits, api.FormVector, api.FormArray:
	default:
		return nil, api.ErrArg
	}
	if e := Check(f); e != api.OK {
		return nil, e
	}
	switch f.Kind {
	case api.FormString:
		return []int{utf8.RuneCountInString(f.Text)}, api.OK
	case api.FormBits:
		return []int{len(f.Text)}, api.OK
	case api.FormVector:
		return []int{len(f.Kids)}, api.OK
	}
	l, _ := dimensions(f.Text)
	return l, api.OK
}
