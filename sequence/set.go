package sequence

import (
	"commonform/api"
	"commonform/tree"
)

// present returns for each element of a set whether another set has one like it, or the error of both sets, test and key.
func present(a, b []api.Form, test, key int) ([]bool, api.Errno) {
	if e := checkSize(a, b); e != api.OK {
		return nil, e
	}
	if !isOne(test, tests) || !isOne(key, keys) {
		return nil, api.ErrArg
	}
	x, y, e := bothKeyed(newClasses(test, key), a, b)
	if e != api.OK {
		return nil, e
	}
	there := map[int]bool{}
	for _, class := range y {
		there[class] = true
	}
	var marks []bool
	for _, class := range x {
		marks = append(marks, there[class])
	}
	return marks, api.OK
}

// chosenBy returns the elements with a mark.
func chosenBy(l []api.Form, marks []bool, mark bool) []api.Form {
	var all []api.Form
	for i, x := range l {
		if marks[i] == mark {
			all = append(all, tree.Copy(x))
		}
	}
	return all
}

// Union returns the elements of two sets.
func Union(a, b []api.Form, test, key int) ([]api.Form, api.Errno) {
	if e := checkSize(a, b); e != api.OK {
		return nil, e
	}
	marks, e := present(b, a, test, key)
	if e != api.OK {
		return nil, e
	}
	all := append(tree.Copies(a), chosenBy(b, marks, false)...)
	if len(all) > api.MaxForm {
		return nil, api.ErrSize
	}
	return all, api.OK
}

// Intersection returns the elements of a set that another one has, too.
func Intersection(a, b []api.Form, test, key int) ([]api.Form, api.Errno) {
	marks, e := present(a, b, test, key)
	if e != api.OK {
		return nil, e
	}
	return chosenBy(a, marks, true), api.OK
}

// Difference returns the elements of a set that another one does not have.
func Difference(a, b []api.Form, test, key int) ([]api.Form, api.Errno) {
	marks, e := present(a, b, test, key)
	if e != api.OK {
		return nil, e
	}
	return chosenBy(a, marks, false), api.OK
}

// Subset reports whether a set has all elements of another one.
func Subset(a, b []api.Form, test, key int) (bool, api.Errno) {
	difference, e := Difference(a, b, test, key)
	return e == api.OK && len(difference) == 0, e
}
