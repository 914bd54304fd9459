package types

import (
	"slices"
	"strconv"

	"commonform/api"
	"commonform/float"
	"commonform/forms"
	"commonform/number"
)

// mentioned is what types speak of, so that all other objects of a kind are alike for them.
type mentioned struct {
	objects []api.Form
	values  []api.Form // of bounds and of real numbers, as rational ones, ascending
	lengths []int
	shapes  []shape // of arrays with several dimensions
}

// mentionedBy returns what types without parts speak of.
func mentionedBy(l []*specifier) mentioned {
	m := mentioned{values: []api.Form{whole(0)}}
	for _, s := range l {
		m.objects = append(m.objects, s.objects...)
		m.addBound(s.low)
		m.addBound(s.high)
		m.addShape(s.shape)
	}
	for _, x := range m.objects {
		m.addValue(x)
	}
	slices.SortFunc(m.values, compare)
	m.values = slices.CompactFunc(m.values, func(a, b api.Form) bool { return compare(a, b) == 0 })
	return m
}

func compare(a, b api.Form) int {
	sign, _ := number.Cmp(a, b)
	return sign
}

// addValue adds the value of a real number, and nothing for other objects.
func (m *mentioned) addValue(x api.Form) {
	if value, e := number.Rational(x); e == api.OK {
		m.values = append(m.values, value)
	}
}

func (m *mentioned) addBound(b bound) {
	if b.given {
		m.addValue(b.value)
	}
}

func (m *mentioned) addShape(s shape) {
	switch {
	case len(s.dims) == 1:
		m.lengths = append(m.lengths, s.dims[0])
	case len(s.dims) > 1:
		m.shapes = append(m.shapes, s)
	}
}

// atoms returns atoms of which one answers like any other one, whatever types that speak of nothing else are asked.
func (m mentioned) atoms() []atom {
	makers := [...]func() []atom{
		m.symbols, m.integers, m.ratios,
		func() []atom { return m.floats(api.FormSingle, float.Single) },
		func() []atom { return m.floats(api.FormDouble, float.Double) },
		m.complexes, m.characters, m.vectors, m.arrays,
	}
	var all []atom
	for i := range len(makers) {
		all = append(all, makers[i]()...)
	}
	return all
}

// those returns the objects of a Kind that are mentioned.
func (m mentioned) those(kind int) []api.Form {
	var l []api.Form
	for _, x := range m.objects {
		if x.Kind == kind {
			l = append(l, x)
		}
	}
	return l
}

// has reports whether an object is mentioned.
func (m mentioned) has(x api.Form) bool {
	return slices.ContainsFunc(m.objects, func(y api.Form) bool { return forms.Equal(x, y) })
}

// fresh returns the first one of many objects that is not mentioned.
func (m mentioned) fresh(object func(i int) api.Form) api.Form {
	for i := 0; ; i++ {
		if x := object(i); !m.has(x) {
			return x
		}
	}
}

func atomsOf(l []api.Form) []atom {
	var all []atom
	for _, x := range l {
		all = append(all, atom{kind: kindOf(x), form: x})
	}
	return all
}

func (m mentioned) symbols() []atom {
	l := []api.Form{forms.Nil(), forms.Symbol(lisp, "T"), forms.Symbol("", "X")}
	for _, name := range [...]string{builtinName, tableName, otherName} {
		l = append(l, forms.Symbol(noForm, name))
	}
	l = append(l, m.fresh(func(i int) api.Form { return forms.Symbol(keyword, "K"+strconv.Itoa(i)) }))
	return atomsOf(append(l, m.those(api.FormSymbol)...))
}

func (m mentioned) complexes() []atom {
	other := m.fresh(func(i int) api.Form {
		return api.Form{Kind: api.FormComplex, Kids: []api.Form{whole(0), whole(i + 1)}}
	})
	return atomsOf(append(m.those(api.FormComplex), other))
}

func (m mentioned) characters() []atom {
	other := m.fresh(func(i int) api.Form { return api.Form{Kind: api.FormChar, Text: string(rune('a' + i))} })
	return atomsOf(append(m.those(api.FormChar), other))
}

// vectors returns strings, bit vectors and vectors of the lengths that are mentioned, and of another one.
func (m mentioned) vectors() []atom {
	var all []atom
	for _, length := range withOther(m.lengths) {
		for _, kind := range [...]int{kindString, kindBits, kindVector} {
			all = append(all, atom{kind: kind, dims: []int{length}})
		}
	}
	return all
}

// withOther returns the numbers of a list that are no free ones, each one once, and one that the list does not have.
func withOther(l []int) []int {
	numbers := slices.Clone(l)
	slices.Sort(numbers)
	numbers = slices.DeleteFunc(slices.Compact(numbers), func(n int) bool { return n == free })
	other := 0
	for slices.Contains(numbers, other) {
		other++
	}
	return append(numbers, other)
}

// arrays returns arrays of all numbers of dimensions that types can tell apart, and of one more.
func (m mentioned) arrays() []atom {
	var all []atom
	for rank := range maxRank + 2 {
		if rank == 1 { // an array with one dimension is a vector
			continue
		}
		for _, dims := range m.dimensions(rank) {
			all = append(all, atom{kind: kindArray, dims: dims})
		}
	}
	return all
}

// dimensions returns lists of dimensions: for each place those that are mentioned there, and another one.
func (m mentioned) dimensions(rank int) [][]int {
	lists := [][]int{nil}
	for place := range rank {
		var there []int
		for _, s := range m.shapes {
			if s.rank == rank {
				there = append(there, s.dims[place])
			}
		}
		var longer [][]int
		for _, dims := range lists {
			for _, d := range withOther(there) {
				longer = append(longer, append(slices.Clone(dims), d))
			}
		}
		lists = longer
	}
	return lists
}
