package array

import (
	"slices"

	"commonform/api"
	"commonform/tree"
)

const operations = 16 // of two bits

// SetFill changes a fill pointer.
func (r *Room) SetFill(a, fill int) api.Errno {
	if e := r.check(a); e != api.OK {
		return e
	}
	vector := &r.arrays[a]
	if vector.Fill == noFill {
		return ErrFill
	}
	if fill < 0 || fill > vector.Dims[0] {
		return api.ErrRange
	}
	vector.Fill = fill
	return api.OK
}

// Push puts an element behind the fill pointer.
func (r *Room) Push(a int, x api.Form, extend int) (int, api.Errno) {
	if e := r.check(a); e != api.OK {
		return 0, e
	}
	vector := r.arrays[a].Array
	if vector.Fill == noFill {
		return 0, ErrFill
	}
	if e := checkElement(x, vector.Bits); e != api.OK {
		return 0, e
	}
	if vector.Fill == vector.Dims[0] {
		if e := r.extend(a, extend, x); e != api.OK {
			return 0, e
		}
	}
	*r.element(a, vector.Fill) = tree.Copy(x)
	r.arrays[a].Fill++
	return vector.Fill, api.OK
}

// extend makes room behind the last element of a vector.
func (r *Room) extend(a, by int, initial api.Form) api.Errno {
	vector := r.arrays[a].Array
	if !vector.Adjustable || by == 0 {
		return api.ErrFull
	}
	if by < 0 || by > maxDimension { // a sum could exceed an int
		return api.ErrRange
	}
	return r.Adjust(a, []int{vector.Dims[0] + by}, sameFill, initial)
}

// Pop takes the element ahead of the fill pointer.
func (r *Room) Pop(a int) (api.Form, api.Errno) {
	if e := r.check(a); e != api.OK {
		return api.Form{}, e
	}
	vector := &r.arrays[a]
	if vector.Fill <= 0 {
		return api.Form{}, ErrFill
	}
	vector.Fill--
	return tree.Copy(*r.element(a, vector.Fill)), api.OK
}

// Boole combines two bit arrays into a third one.
func (r *Room) Boole(op, a, b, into int) api.Errno {
	if e := r.check(a, b, into); e != api.OK {
		return e
	}
	if op < 0 || op >= operations {
		return api.ErrArg
	}
	first, second, third := r.arrays[a], r.arrays[b], r.arrays[into]
	if !first.Bits || !second.Bits || !third.Bits {
		return ErrBits
	}
	if !slices.Equal(first.Dims, second.Dims) || !slices.Equal(first.Dims, third.Dims) {
		return ErrRank
	}
	combine := combination(op)
	for index := range total(first.Dims) { // one after the other: an array may show elements of another one
		x, y := *r.element(a, index), *r.element(b, index)
		*r.element(into, index) = combine(x, y)
	}
	return api.OK
}

// combination returns the operation of two bits with a number.
func combination(op int) func(x, y api.Form) api.Form {
	return func(x, y api.Form) api.Form {
		place := 0
		if x.Text == "1" {
			place += 2
		}
		if y.Text == "1" {
			place++
		}
		return bit(op >> place & 1)
	}
}

func bit(n int) api.Form {
	if n == 0 {
		return api.Form{Kind: api.FormInt, Text: "0"}
	}
	return api.Form{Kind: api.FormInt, Text: "1"}
}
