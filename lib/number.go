package lib

import (
	"strconv"
	"strings"

	"commonform/api"
	"commonform/heap"
	"commonform/number"
)

// isNumber reports whether a word is a fixnum, or an object of a kind that numbers have.
func (w *World) isNumber(x heap.Word) bool {
	kind := w.heap.Kind(x)
	return isFixnum(x) || kind >= heap.KindInt && kind <= heap.KindComplex
}

func isFixnum(x heap.Word) bool {
	_, ok := x.Fixnum()
	return ok
}

func (w *World) isInteger(x heap.Word) bool { return isFixnum(x) || w.heap.Kind(x) == heap.KindInt }

func (w *World) isRational(x heap.Word) bool {
	return w.isInteger(x) || w.heap.Kind(x) == heap.KindRatio
}

func (w *World) isFloat(x heap.Word) bool {
	kind := w.heap.Kind(x)
	return kind == heap.KindSingle || kind == heap.KindDouble
}

func (w *World) isComplex(x heap.Word) bool { return w.heap.Kind(x) == heap.KindComplex }

// isNegative reports whether an integer is below 0.
func (w *World) isNegative(x heap.Word) bool {
	if n, ok := x.Fixnum(); ok {
		return n < 0
	}
	return strings.HasPrefix(w.text(x), "-")
}

// number returns the form of a number, and whether it is made as numbers are.
func (w *World) number(x heap.Word) (api.Form, bool) {
	if !w.isComplex(x) {
		return w.real(x)
	}
	f := api.Form{Kind: api.FormComplex}
	for _, part := range w.fields(x) {
		kid, ok := w.real(part)
		if !ok {
			return api.Form{}, false
		}
		f.Kids = append(f.Kids, kid)
	}
	return f, w.hasFields(x)
}

func (w *World) real(x heap.Word) (api.Form, bool) {
	if n, ok := x.Fixnum(); ok {
		return integerForm(n), true
	}
	ok := w.isNumber(x) && !w.isComplex(x) && w.isRaw(x)
	if !ok {
		return api.Form{}, false
	}
	return api.Form{Kind: w.heap.Kind(x), Text: w.text(x)}, true
}

func integerForm(n int64) api.Form {
	return api.Form{Kind: api.FormInt, Text: strconv.FormatInt(n, 10)}
}

// numberObject returns the object of a number's form.
func (w *World) numberObject(f api.Form) heap.Word {
	if x, ok := fixnumOf(f); ok {
		return x
	}
	if f.Kind != api.FormComplex {
		return made(w.heap.Raw(f.Kind, f.Text))
	}
	re, im := w.numberObject(f.Kids[0]), w.numberObject(f.Kids[1])
	x := made(w.heap.New(heap.KindComplex, 2))
	w.heap.Set(x, 0, re)
	w.heap.Set(x, 1, im)
	return x
}

// numbers returns the forms of numbers.
func (w *World) numbers(l []heap.Word) []api.Form {
	var all []api.Form
	for _, x := range l {
		f, _ := w.number(x)
		all = append(all, f)
	}
	return all
}

// result returns the object of a number that was calculated of others, or fails by the error.
func (w *World) result(f api.Form, e api.Errno, of []heap.Word) Answer {
	w.check(e, of)
	return values(w.numberObject(f))
}

// check fails by an error of a calculation.
func (w *World) check(e api.Errno, of []heap.Word) {
	switch e {
	case api.OK:
		return
	case api.ErrZero:
		w.fail(divisionByZero)
	case api.ErrType:
		for _, x := range of {
			if w.isComplex(x) {
				w.failType(x, "REAL")
			}
		}
	}
	w.fail(arithmetic)
}

// Calculations of one, of two, and of many numbers.
type (
	unary  func(x api.Form) (api.Form, api.Errno)
	binary func(x, y api.Form) (api.Form, api.Errno)
	nary   func(l []api.Form) (api.Form, api.Errno)
)

func (w *World) unary(f unary) operation {
	return func(l []heap.Word) Answer {
		x, e := f(w.numbers(l)[0])
		return w.result(x, e, l)
	}
}

func (w *World) nary(f nary) operation {
	return func(l []heap.Word) Answer {
		x, e := f(w.numbers(l))
		return w.result(x, e, l)
	}
}

// fold calculates from left to right, from a first number on.
func (w *World) fold(first api.Form, l []heap.Word, f binary) Answer {
	for _, x := range w.numbers(l) {
		next, e := f(first, x)
		w.check(e, l)
		first = next
	}
	return values(w.numberObject(first))
}

func (w *World) foldFrom(n int64, f binary) operation {
	return func(l []heap.Word) Answer { return w.fold(integerForm(n), l, f) }
}

// difference takes numbers from the first one; a single one from a neutral one.
func (w *World) difference(alone unary, f binary) operation {
	return func(l []heap.Word) Answer {
		all := w.numbers(l)
		if len(all) == 1 {
			x, e := alone(all[0])
			return w.result(x, e, l)
		}
		return w.fold(all[0], l[1:], f)
	}
}

// chained tells whether a relation holds between each number and the next one.
func (w *World) chained(holds func(x, y api.Form) (bool, api.Errno)) operation {
	return func(l []heap.Word) Answer {
		all, is := w.numbers(l), true
		for i := 1; i < len(all); i++ {
			ok, e := holds(all[i-1], all[i])
			w.check(e, l)
			is = is && ok
		}
		return w.is(is)
	}
}

// ordered is chained by the sign of a comparison.
func (w *World) ordered(holds func(sign int) bool) operation {
	return w.chained(func(x, y api.Form) (bool, api.Errno) {
		sign, e := number.Cmp(x, y)
		return holds(sign), e
	})
}

// extreme returns the first argument than which none is farther in a direction.
func (w *World) extreme(direction int) operation {
	return func(l []heap.Word) Answer {
		all, best := w.numbers(l), 0
		for i, x := range all {
			sign, e := number.Cmp(x, all[best])
			w.check(e, l)
			if sign == direction {
				best = i
			}
		}
		return values(l[best])
	}
}

// distinct tells whether no two numbers are equal: equal ones have the same exact parts.
func (w *World) distinct(l []heap.Word) Answer {
	met, is := map[[2]string]bool{}, true
	for _, x := range w.numbers(l) {
		var key [2]string
		for i, part := range []unary{number.Real, number.Imaginary} {
			f, e := part(x)
			w.check(e, l)
			f, e = number.Rational(f)
			w.check(e, l)
			key[i] = f.Text
		}
		is = is && !met[key]
		met[key] = true
	}
	return w.is(is)
}
