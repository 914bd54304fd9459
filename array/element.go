package array

import (
	"strconv"
	"strings"

	"commonform/api"
	"commonform/forms"
	"commonform/tree"
)

// Total returns how many elements an array has.
func (r *Room) Total(a int) (int, api.Errno) {
	if e := r.check(a); e != api.OK {
		return 0, e
	}
	return total(r.arrays[a].Dims), api.OK
}

// Length returns the length of a vector, up to its fill pointer.
func (r *Room) Length(a int) (int, api.Errno) {
	if e := r.check(a); e != api.OK {
		return 0, e
	}
	if len(r.arrays[a].Dims) != 1 {
		return 0, ErrRank
	}
	return active(r.arrays[a].Array), api.OK
}

// active returns how many elements are ahead of the fill pointer, or all of them.
func active(a Array) int {
	if a.Fill != noFill {
		return a.Fill
	}
	return total(a.Dims)
}

// Index returns the row-major index of some subscripts.
func (r *Room) Index(a int, at []int) (int, api.Errno) {
	if e := r.check(a); e != api.OK {
		return 0, e
	}
	dims := r.arrays[a].Dims
	if len(at) != len(dims) {
		return 0, ErrRank
	}
	if !within(dims, at) {
		return 0, api.ErrRange
	}
	return indexOf(dims, at), api.OK
}

// checkIndex returns the error of an element's index.
func (r *Room) checkIndex(a, index int) api.Errno {
	if e := r.check(a); e != api.OK {
		return e
	}
	if index < 0 || index >= total(r.arrays[a].Dims) {
		return api.ErrRange
	}
	return api.OK
}

// Where returns in which array, and at which index, an element lies.
func (r *Room) Where(a, index int) (array, at int, e api.Errno) {
	if e := r.checkIndex(a, index); e != api.OK {
		return 0, 0, e
	}
	array, at = r.where(a, index)
	return array, at, api.OK
}

func (r *Room) where(a, index int) (array, at int) {
	lies := r.arrays[a].Array
	if lies.Target == noTarget {
		return a, index
	}
	return r.where(lies.Target, lies.Offset+index)
}

// element returns an element where it lies.
func (r *Room) element(a, index int) *api.Form {
	array, at := r.where(a, index)
	return &r.arrays[array].own[at]
}

// Get returns an element by its row-major index.
func (r *Room) Get(a, index int) (api.Form, api.Errno) {
	if e := r.checkIndex(a, index); e != api.OK {
		return api.Form{}, e
	}
	return tree.Copy(*r.element(a, index)), api.OK
}

// Set changes an element by its row-major index.
func (r *Room) Set(a, index int, x api.Form) api.Errno {
	if e := r.checkIndex(a, index); e != api.OK {
		return e
	}
	if e := checkElement(x, r.arrays[a].Bits); e != api.OK {
		return e
	}
	*r.element(a, index) = tree.Copy(x)
	return api.OK
}

// Contents returns all elements in row-major order.
func (r *Room) Contents(a int) ([]api.Form, api.Errno) {
	if e := r.check(a); e != api.OK {
		return nil, e
	}
	return tree.Copies(r.shown(a)), api.OK
}

// shown returns the elements of an array's contents, whose parts are still the room's.
func (r *Room) shown(a int) []api.Form {
	var l []api.Form
	for index := range active(r.arrays[a].Array) {
		l = append(l, *r.element(a, index))
	}
	return l
}

// Form returns the form of an array.
func (r *Room) Form(a int) (api.Form, api.Errno) {
	if e := r.check(a); e != api.OK {
		return api.Form{}, e
	}
	f := formOf(r.arrays[a].Array, r.shown(a))
	if forms.Check(f) != api.OK { // its parts are right, so that it can only be too large
		return api.Form{}, api.ErrSize
	}
	return tree.Copy(f), api.OK
}

func formOf(a Array, elements []api.Form) api.Form {
	if len(a.Dims) != 1 {
		return api.Form{Kind: api.FormArray, Text: dimensionText(a.Dims), Kids: elements}
	}
	if !a.Bits {
		return api.Form{Kind: api.FormVector, Kids: elements}
	}
	var bits strings.Builder
	for _, x := range elements {
		bits.WriteString(x.Text)
	}
	return api.Form{Kind: api.FormBits, Text: bits.String()}
}

func dimensionText(dims []int) string {
	var texts []string
	for _, d := range dims {
		texts = append(texts, strconv.Itoa(d))
	}
	return strings.Join(texts, " ")
}
