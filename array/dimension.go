package array

import (
	"iter"

	"commonform/api"
	"commonform/forms"
)

const (
	maxDimension = 2000
	maxTotal     = 2000
)

// checkDimensions returns the error of dimensions.
func checkDimensions(dims []int) api.Errno {
	if len(dims) > forms.MaxRank {
		return api.ErrSize
	}
	for _, d := range dims {
		if d < 0 || d > maxDimension {
			return api.ErrRange
		}
	}
	if total(dims) > maxTotal {
		return api.ErrLarge
	}
	return api.OK
}

// total returns the product of dimensions; what is above the greatest one is cut, since a product of seven exceeds an int.
func total(dims []int) int {
	n := 1
	for _, d := range dims {
		if d == 0 {
			return 0
		}
		n = min(n*d, maxTotal+1)
	}
	return n
}

// indexOf returns the row-major index of subscripts.
func indexOf(dims, at []int) int {
	index := 0
	for i, d := range dims {
		index = index*d + at[i]
	}
	return index
}

// within reports whether subscripts are below dimensions.
func within(dims, at []int) bool {
	for i, d := range dims {
		if at[i] < 0 || at[i] >= d {
			return false
		}
	}
	return true
}

// subscripts yields all indices with their subscripts; these are the iterator's own, and change behind each step.
func subscripts(dims []int) iter.Seq2[int, []int] {
	return func(yield func(int, []int) bool) {
		at := make([]int, len(dims))
		for index := range total(dims) {
			if !yield(index, at) {
				return
			}
			for i := len(at) - 1; i >= 0; i-- {
				at[i]++
				if at[i] < dims[i] {
					break
				}
				at[i] = 0
			}
		}
	}
}

// Subscripts returns the subscripts of a row-major index.
func Subscripts(dims []int, index int) ([]int, api.Errno) {
	if e := checkDimensions(dims); e != api.OK {
		return nil, e
	}
	for i, at := range subscripts(dims) {
		if i == index {
			return at, api.OK
		}
	}
	return nil, api.ErrRange
}
