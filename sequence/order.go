package sequence

import (
	"slices"

	"commonform/api"
	"commonform/tree"
)

// keyed is an element with what of it counts.
type keyed struct{ element, key api.Form }

// ordering has the elements of sequences with their keys, which all have the kind of an order.
type ordering struct {
	key func(x api.Form) (api.Form, bool)
	by  rule
}

// newOrdering returns an order by a key, or the error of sequences, order and key.
func newOrdering(order, key int, sequences ...[]api.Form) (ordering, api.Errno) {
	if e := checkSize(sequences...); e != api.OK {
		return ordering{}, e
	}
	if !isOne(order, orders) || !isOne(key, keys) {
		return ordering{}, api.ErrArg
	}
	return ordering{key: parts()[key], by: rules()[order]}, api.OK
}

// prepare returns elements with their keys, or ErrType if one has no key, or one of another kind.
func (o ordering) prepare(l []api.Form) ([]keyed, api.Errno) {
	var all []keyed
	for _, x := range l {
		key, ok := o.key(x)
		if !ok || !o.by.takes(key) {
			return nil, api.ErrType
		}
		all = append(all, keyed{element: x, key: key})
	}
	return all, api.OK
}

// merged returns two lists as one: the next element of b only if it is less than that of a.
func (o ordering) merged(a, b []keyed) []keyed {
	all := make([]keyed, 0, len(a)+len(b))
	for len(a) > 0 && len(b) > 0 {
		if o.by.less(b[0].key, a[0].key) {
			all, b = append(all, b[0]), b[1:]
		} else {
			all, a = append(all, a[0]), a[1:]
		}
	}
	return slices.Concat(all, a, b)
}

// sorted merges the sorted halves of a list.
func (o ordering) sorted(l []keyed) []keyed {
	if len(l) < 2 {
		return l
	}
	half := len(l) / 2
	return o.merged(o.sorted(l[:half]), o.sorted(l[half:]))
}

func elements(l []keyed) []api.Form {
	var all []api.Form
	for _, x := range l {
		all = append(all, tree.Copy(x.element))
	}
	return all
}

// Sort returns the elements in an order, equal ones as they come.
func Sort(l []api.Form, order, key int) ([]api.Form, api.Errno) {
	o, e := newOrdering(order, key, l)
	if e != api.OK {
		return nil, e
	}
	all, e := o.prepare(l)
	if e != api.OK {
		return nil, e
	}
	return elements(o.sorted(all)), api.OK
}

// Merge returns the elements of two sequences, merged by an order.
func Merge(a, b []api.Form, order, key int) ([]api.Form, api.Errno) {
	o, e := newOrdering(order, key, a, b)
	if e != api.OK {
		return nil, e
	}
	x, e := o.prepare(a)
	if e != api.OK {
		return nil, e
	}
	y, e := o.prepare(b)
	if e != api.OK {
		return nil, e
	}
	if len(a)+len(b) > api.MaxForm {
		return nil, api.ErrSize
	}
	return elements(o.merged(x, y)), api.OK
}
