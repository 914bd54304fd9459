package types

import (
	"slices"
	"strings"

	"commonform/api"
	"commonform/forms"
	"commonform/number"
)

// end is an end of a range of integers: a number, or none, below or above all numbers.
type end struct {
	beyond int // -1 or 1 for none
	value  api.Form
}

// form returns an end as a bound.
func (x end) form() api.Form {
	if x.beyond != 0 {
		return star()
	}
	return x.value
}

// short returns an end as a bound, and none if its text would be too long for one.
func (x end) short() api.Form {
	if len(x.value.Text) > maxDigits {
		return star()
	}
	return x.form()
}

func (x end) sign() int {
	switch {
	case x.beyond != 0:
		return x.beyond
	case strings.HasPrefix(x.value.Text, "-"):
		return -1
	case x.value.Text == "0":
		return 0
	}
	return 1
}

// compareTo returns the order of two ends.
func (x end) compareTo(y end) int {
	if x.beyond != 0 || y.beyond != 0 {
		return x.beyond - y.beyond
	}
	return compare(x.value, y.value)
}

// times returns the product of two ends; 0 times none is 0, since it stands for numbers without limit.
func (x end) times(y end) end {
	if x.sign() == 0 || y.sign() == 0 {
		return end{value: whole(0)}
	}
	if x.beyond != 0 || y.beyond != 0 {
		return end{beyond: x.sign() * y.sign()}
	}
	product, _ := number.Mul(x.value, y.value)
	return end{value: product}
}

// plus returns the sum of two ends of the same side.
func (x end) plus(y end) end {
	if x.beyond != 0 {
		return x
	}
	if y.beyond != 0 {
		return y
	}
	return end{value: plus(x.value, y.value)}
}

// integersOf returns the ends of the integers of a type, if it has some.
func integersOf(s *specifier) (low, high end, some bool) {
	var simple []*specifier
	s.simple(func(part *specifier) { simple = append(simple, part) })
	near := mentionedBy(simple).integers()
	var those []api.Form
	for _, a := range near {
		if s.holds(a.is) {
			those = append(those, a.form)
		}
	}
	if len(those) == 0 {
		return end{}, end{}, false
	}
	low, high = end{value: slices.MinFunc(those, compare)}, end{value: slices.MaxFunc(those, compare)}
	// the outermost ones stand for all that are beyond the numbers of which the type speaks
	if compare(low.value, near[0].form) == 0 {
		low = end{beyond: -1}
	}
	if compare(high.value, near[len(near)-1].form) == 0 {
		high = end{beyond: 1}
	}
	return low, high, true
}

// Integers returns between which bounds the integers of a type lie.
func Integers(t api.Form) (some bool, lo, hi api.Form, e api.Errno) {
	s, e := read(t)
	if e != api.OK {
		return false, api.Form{}, api.Form{}, e
	}
	low, high, some := integersOf(s)
	if !some {
		return false, api.Form{}, api.Form{}, api.OK
	}
	return true, low.form(), high.form(), api.OK
}

// Plus returns a type of the sums of the objects of two types.
func Plus(a, b api.Form) (api.Form, api.Errno) {
	return combined(a, b, func(x, y [2]end) [2]end { return [2]end{x[0].plus(y[0]), x[1].plus(y[1])} })
}

// Times returns a type of the products of the objects of two types.
func Times(a, b api.Form) (api.Form, api.Errno) {
	return combined(a, b, func(x, y [2]end) [2]end {
		least := x[0].times(y[0])
		greatest := least
		for _, product := range [...]end{x[0].times(y[1]), x[1].times(y[0]), x[1].times(y[1])} {
			if product.compareTo(least) < 0 {
				least = product
			}
			if product.compareTo(greatest) > 0 {
				greatest = product
			}
		}
		return [2]end{least, greatest}
	})
}

// combined returns the type of what an operation makes of the numbers of two types; ends says between which ends it lies.
func combined(a, b api.Form, ends func(x, y [2]end) [2]end) (api.Form, api.Errno) {
	l, e := readAll([]api.Form{a, b})
	if e != api.OK {
		return api.Form{}, e
	}
	if !onlyIntegers(l[0]) || !onlyIntegers(l[1]) {
		return forms.Symbol(lisp, "NUMBER"), api.OK
	}
	var ranges [2][2]end
	for i, s := range l {
		low, high, some := integersOf(s)
		if !some {
			return forms.Nil(), api.OK
		}
		ranges[i] = [2]end{low, high}
	}
	both := ends(ranges[0], ranges[1])
	return forms.Call("INTEGER", []api.Form{both[0].short(), both[1].short()}), api.OK
}

// onlyIntegers reports whether all objects of a type are integers.
func onlyIntegers(s *specifier) bool {
	for _, c := range classesOf([]*specifier{s, {kinds: kindsOf(kindInteger)}}) {
		if c.answers.has(0) && !c.answers.has(1) {
			return false
		}
	}
	return true
}
