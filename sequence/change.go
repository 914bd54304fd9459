package sequence

import (
	"slices"

	"commonform/api"
	"commonform/tree"
)

// chosen returns which elements of a sequence are taken, as many as the count says, from the front or from the end.
func chosen(x api.Form, l []api.Form, o Options) (taken, api.Errno) {
	t, e := take(x, l, o)
	if e != api.OK || o.Count == noEnd {
		return t, e
	}
	left := o.Count
	for i := range looked(0, len(t.marks), o.FromEnd) {
		if t.marks[i] {
			t.marks[i] = left > 0
			left--
		}
	}
	return t, api.OK
}

// Remove returns the elements that are not like x.
func Remove(x api.Form, l []api.Form, o Options) ([]api.Form, api.Errno) {
	t, e := chosen(x, l, o)
	if e != api.OK {
		return nil, e
	}
	var left []api.Form
	for i, element := range l {
		if !t.has(i) {
			left = append(left, tree.Copy(element))
		}
	}
	return left, api.OK
}

// Substitute returns the elements with another one for those that are like x.
func Substitute(other, x api.Form, l []api.Form, o Options) ([]api.Form, api.Errno) {
	t, e := chosen(x, l, o)
	if e != api.OK {
		return nil, e
	}
	var all []api.Form
	for i, element := range l {
		if t.has(i) {
			element = other
		}
		all = append(all, tree.Copy(element))
	}
	return all, api.OK
}

// Distinct returns the elements without those that are like others.
func Distinct(l []api.Form, o Options) ([]api.Form, api.Errno) {
	all, _, e := look(l, o)
	if e != api.OK {
		return nil, e
	}
	t := taken{start: o.Start, marks: make([]bool, len(all))}
	for i, class := range all {
		others := all[i+1:]
		if o.FromEnd {
			others = all[:i]
		}
		t.marks[i] = slices.ContainsFunc(others, func(other int) bool { return (other == class) != o.Not })
	}
	var left []api.Form
	for i, element := range l {
		if !t.has(i) {
			left = append(left, tree.Copy(element))
		}
	}
	return left, api.OK
}

// Subsequence returns some elements.
func Subsequence(l []api.Form, start, end int) ([]api.Form, api.Errno) {
	if e := checkSize(l); e != api.OK {
		return nil, e
	}
	if e := checkBounds(start, end, len(l)); e != api.OK {
		return nil, e
	}
	return tree.Copies(l[start:closed(end, len(l))]), api.OK
}

// Replace returns the elements with some replaced by those of another sequence.
func Replace(l, m []api.Form, start, end, from, to int) ([]api.Form, api.Errno) {
	if e := checkSize(l, m); e != api.OK {
		return nil, e
	}
	if e := checkBounds(start, end, len(l)); e != api.OK {
		return nil, e
	}
	if e := checkBounds(from, to, len(m)); e != api.OK {
		return nil, e
	}
	all := tree.Copies(l)
	copy(all[start:closed(end, len(l))], tree.Copies(m[from:closed(to, len(m))]))
	return all, api.OK
}

// Fill returns the elements with some replaced by x.
func Fill(l []api.Form, x api.Form, start, end int) ([]api.Form, api.Errno) {
	if e := checkSize(l); e != api.OK {
		return nil, e
	}
	if e := checkBounds(start, end, len(l)); e != api.OK {
		return nil, e
	}
	all := tree.Copies(l)
	for i := range looked(start, closed(end, len(l)), false) {
		all[i] = tree.Copy(x)
	}
	return all, api.OK
}

// Reverse returns the elements in the opposite order.
func Reverse(l []api.Form) ([]api.Form, api.Errno) {
	if e := checkSize(l); e != api.OK {
		return nil, e
	}
	all := tree.Copies(l)
	slices.Reverse(all)
	return all, api.OK
}
