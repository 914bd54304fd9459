package array

import (
	"slices"

	"commonform/api"
	"commonform/tree"
)

// Adjust gives an array other dimensions.
func (r *Room) Adjust(a int, dims []int, fill int, initial api.Form) api.Errno {
	if e := r.check(a); e != api.OK {
		return e
	}
	old := r.arrays[a].Array
	if e := checkAdjusted(old, dims); e != api.OK {
		return e
	}
	if (fill >= 0 || fill < sameFill) && old.Fill == noFill || fill == noFill && old.Fill != noFill {
		return ErrFill
	}
	if fill == sameFill {
		fill = old.Fill
	}
	if fill < noFill || fill != noFill && fill > dims[0] {
		return api.ErrRange
	}
	if e := checkElement(initial, old.Bits); e != api.OK {
		return e
	}
	next := stored{Array: old, own: r.moved(a, dims, tree.Copy(initial))}
	next.Dims, next.Fill, next.Target, next.Offset = slices.Clone(dims), fill, noTarget, 0
	return r.replace(a, next)
}

// checkAdjusted returns the error of an array that gets other dimensions.
func checkAdjusted(a Array, dims []int) api.Errno {
	if !a.Adjustable {
		return api.ErrArg
	}
	if e := checkDimensions(dims); e != api.OK {
		return e
	}
	if len(dims) != len(a.Dims) {
		return ErrRank
	}
	return api.OK
}

// moved returns the elements that an array has with other dimensions: its own ones where it has them, and otherwise initial ones.
func (r *Room) moved(a int, dims []int, initial api.Form) []api.Form {
	old := r.arrays[a].Dims
	own := slices.Repeat([]api.Form{initial}, total(dims))
	for index, at := range subscripts(dims) {
		if within(old, at) {
			own[index] = *r.element(a, indexOf(old, at))
		}
	}
	return own
}

// replace changes an array, unless it is then too small for those that show its elements.
func (r *Room) replace(a int, next stored) api.Errno {
	old := r.arrays[a]
	r.arrays[a] = next
	for _, other := range r.arrays {
		if other.Target == a && !reaches(next.Array, other.Array) {
			r.arrays[a] = old
			return api.ErrSize
		}
	}
	return api.OK
}

// Displace makes an array show the elements of another one.
func (r *Room) Displace(a int, dims []int, target, offset int) api.Errno {
	if e := r.check(a); e != api.OK {
		return e
	}
	next := stored{Array: r.arrays[a].Array}
	if e := checkAdjusted(next.Array, dims); e != api.OK {
		return e
	}
	if !r.has(target) {
		return api.ErrNone
	}
	if r.shows(target, a) {
		return api.ErrOrder
	}
	next.Dims, next.Target, next.Offset = slices.Clone(dims), target, offset
	if e := r.checkShown(next.Array); e != api.OK {
		return e
	}
	if next.Fill != noFill && next.Fill > dims[0] {
		return api.ErrRange
	}
	return r.replace(a, next)
}

// shows reports whether an array is another one, or is displaced to it, directly or through others.
func (r *Room) shows(a, other int) bool {
	return a == other || a != noTarget && r.shows(r.arrays[a].Target, other)
}
