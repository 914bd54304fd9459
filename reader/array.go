package reader

import (
	"iter"
	"slices"
	"strconv"
	"strings"

	"commonform/api"
	"commonform/forms"
	"commonform/tree"
)

const maxDimension = 2000

// Array returns the array with given contents.
func Array(rank int, contents api.Form) (api.Form, api.Errno) {
	if e := forms.Check(contents); e == api.ErrSize || e == api.ErrForm {
		return api.Form{}, e
	}
	if rank < 0 || rank > forms.MaxRank {
		return api.Form{}, api.ErrArg
	}
	if rank == 0 {
		return api.Form{Kind: api.FormArray, Kids: []api.Form{tree.Copy(contents)}}, api.OK
	}
	dimensions, ok := measure(rank, contents)
	if !ok {
		return api.Form{}, ErrShape
	}
	if !isRoom(dimensions) {
		return api.Form{}, api.ErrSize
	}
	f := api.Form{Kind: api.FormVector}
	if rank > 1 {
		f = api.Form{Kind: api.FormArray, Text: dimensionText(dimensions)}
	}
	for element := range leaves(rank, contents) {
		f.Kids = append(f.Kids, tree.Copy(element))
	}
	return f, api.OK
}

// elements returns the elements of contents; false if these can have none.
func elements(f api.Form) (iter.Seq[api.Form], bool) {
	switch f.Kind {
	case api.FormVector:
		return slices.Values(f.Kids), true
	case api.FormString, api.FormBits:
		return characters(f), true
	}
	items, ok := forms.Items(f)
	return slices.Values(items), ok
}

// characters yields the characters of a string, or the bits of a bit vector, as forms.
func characters(f api.Form) iter.Seq[api.Form] {
	return func(yield func(api.Form) bool) {
		for _, c := range f.Text {
			element := charForm(c)
			if f.Kind == api.FormBits {
				element.Kind = api.FormInt
			}
			if !yield(element) {
				return
			}
		}
	}
}

// measure returns the dimensions of contents; false if they have none, or different ones in different places.
func measure(rank int, f api.Form) ([]int, bool) {
	all, ok := elements(f)
	if !ok {
		return nil, false
	}
	count, inner := 0, make([]int, rank-1)
	for element := range all {
		if rank > 1 {
			l, ok := measure(rank-1, element)
			if !ok || count > 0 && !slices.Equal(l, inner) {
				return nil, false
			}
			inner = l
		}
		count++
	}
	return append([]int{count}, inner...), true
}

// isRoom reports whether an array may have these dimensions. What is behind a dimension of 0 is 0, too, so that the product does not become greater than what was there.
func isRoom(dimensions []int) bool {
	count := 1
	for _, n := range dimensions {
		if n > maxDimension {
			return false
		}
		count *= n
	}
	return count <= api.MaxForm
}

// leaves yields the elements of an array in row-major order.
func leaves(rank int, f api.Form) iter.Seq[api.Form] {
	all, _ := elements(f)
	if rank == 1 {
		return all
	}
	return func(yield func(api.Form) bool) {
		for part := range all {
			for leaf := range leaves(rank-1, part) {
				if !yield(leaf) {
					return
				}
			}
		}
	}
}

func dimensionText(dimensions []int) string {
	var words []string
	for _, n := range dimensions {
		words = append(words, strconv.Itoa(n))
	}
	return strings.Join(words, " ")
}
