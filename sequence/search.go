package sequence

import (
	"commonform/api"
	"commonform/tree"
)

// classes gives elements numbers, which are equal if they are alike.
type classes struct {
	sign func(x api.Form) string
	key  func(x api.Form) (api.Form, bool)
	met  map[string]int
}

func newClasses(test, key int) classes {
	return classes{sign: signs()[test], key: parts()[key], met: map[string]int{}}
}

// of returns the class of an element without a key.
func (c classes) of(x api.Form) int {
	sign := c.sign(x)
	class, ok := c.met[sign]
	if !ok {
		class = len(c.met)
		c.met[sign] = class
	}
	return class
}

// keyed returns the classes of the keys of elements, or ErrType if one has no key.
func (c classes) keyed(l []api.Form) ([]int, api.Errno) {
	all := make([]int, 0, len(l))
	for _, x := range l {
		key, ok := c.key(x)
		if !ok {
			return nil, api.ErrType
		}
		all = append(all, c.of(key))
	}
	return all, api.OK
}

// taken tells which elements of a sequence are taken.
type taken struct {
	start int
	marks []bool // of the elements from start on
}

func (t taken) end() int { return t.start + len(t.marks) }

func (t taken) has(i int) bool { return i >= t.start && i < t.end() && t.marks[i-t.start] }

// first returns the first element that is taken, from the front or from the end, or -1.
func (t taken) first(back bool) int {
	for i := range looked(t.start, t.end(), back) {
		if t.has(i) {
			return i
		}
	}
	return -1
}

// take returns which elements of a sequence are like x, or the error of sequence, options and keys.
func take(x api.Form, l []api.Form, o Options) (taken, api.Errno) {
	look, c, e := look(l, o)
	if e != api.OK {
		return taken{}, e
	}
	class := c.of(x)
	t := taken{start: o.Start}
	for _, other := range look {
		t.marks = append(t.marks, (other == class) != o.Not)
	}
	return t, api.OK
}

// look returns the classes of the elements that are looked at, or the error of sequence, options and keys.
func look(l []api.Form, o Options) ([]int, classes, api.Errno) {
	if e := checkSize(l); e != api.OK {
		return nil, classes{}, e
	}
	if e := o.check(len(l)); e != api.OK {
		return nil, classes{}, e
	}
	c := newClasses(o.Test, o.Key)
	all, e := c.keyed(l[o.Start:closed(o.End, len(l))])
	return all, c, e
}

// Find returns the element that is like x.
func Find(x api.Form, l []api.Form, o Options) (api.Form, api.Errno) {
	i, e := Position(x, l, o)
	if e != api.OK {
		return api.Form{}, e
	}
	if i < 0 {
		return api.Form{}, api.ErrNone
	}
	return tree.Copy(l[i]), api.OK
}

// Position returns the index of the element that is like x, or -1.
func Position(x api.Form, l []api.Form, o Options) (int, api.Errno) {
	t, e := take(x, l, o)
	if e != api.OK {
		return 0, e
	}
	return t.first(o.FromEnd), api.OK
}

// Count returns how many elements are like x.
func Count(x api.Form, l []api.Form, o Options) (int, api.Errno) {
	t, e := take(x, l, o)
	if e != api.OK {
		return 0, e
	}
	n := 0
	for _, is := range t.marks {
		if is {
			n++
		}
	}
	return n, api.OK
}

// Search returns where a sequence stands in another one, or -1.
func Search(part, l []api.Form, o Options) (int, api.Errno) {
	if e := checkSize(part, l); e != api.OK {
		return 0, e
	}
	if e := o.check(len(l)); e != api.OK {
		return 0, e
	}
	c := newClasses(o.Test, o.Key)
	wanted, e := c.keyed(part)
	if e != api.OK {
		return 0, e
	}
	all, e := c.keyed(l[o.Start:closed(o.End, len(l))])
	if e != api.OK {
		return 0, e
	}
	at := found(wanted, all, o.FromEnd)
	if at < 0 {
		return -1, api.OK
	}
	return o.Start + at, api.OK
}

// found returns where a list of numbers stands in another one, or -1.
func found(part, all []int, back bool) int {
search:
	for at := range looked(0, len(all)-len(part)+1, back) {
		for i, n := range part {
			if all[at+i] != n {
				continue search
			}
		}
		return at
	}
	return -1
}

// Mismatch returns where two sequences begin to differ, or -1.
func Mismatch(a, b []api.Form, o Options) (int, api.Errno) {
	if e := checkSize(a, b); e != api.OK {
		return 0, e
	}
	if e := o.checkChoice(); e != api.OK {
		return 0, e
	}
	x, y, e := bothKeyed(newClasses(o.Test, o.Key), a, b)
	if e != api.OK {
		return 0, e
	}
	for i := range max(len(x), len(y)) {
		if i == len(x) || i == len(y) || x[i] != y[i] {
			return i, api.OK
		}
	}
	return -1, api.OK
}

func bothKeyed(c classes, a, b []api.Form) (x, y []int, e api.Errno) {
	x, e = c.keyed(a)
	if e != api.OK {
		return nil, nil, e
	}
	y, e = c.keyed(b)
	return x, y, e
}
