package lib

import (
	"slices"

	"commonform/api"
	"commonform/heap"
	"commonform/number"
)

// Operations of bits, by the numbers that layer 2 has for them.
const (
	opAnd       = 8
	opInclusive = 14
	opExclusive = 6
)

// Ways of rounding, by the numbers that layer 3 has for them.
const (
	wayFloor = iota
	wayCeiling
	wayTruncate
	wayRound
)

const (
	maxShift = 65536
	maxPower = 4096
)

// numberRows are the functions of numbers, with their arguments.
func numberRows() []row {
	return []row{
		{"+", "n.."}, {"*", "n.."}, {"-", "n n.."}, {"/", "n n.."}, {"=", "n n.."}, {"/=", "n n.."},
		{"<", "r r.."}, {"<=", "r r.."}, {">", "r r.."}, {">=", "r r.."}, {"MAX", "r r.."}, {"MIN", "r r.."},
		{"ABS", "r"}, {"FLOOR", "r [r]"}, {"CEILING", "r [r]"}, {"TRUNCATE", "r [r]"}, {"ROUND", "r [r]"}, {"MOD", "r r"}, {"REM", "r r"},
		{"GCD", "i.."}, {"LCM", "i.."}, {"LOGAND", "i.."}, {"LOGIOR", "i.."}, {"LOGXOR", "i.."}, {"LOGNOT", "i"},
		{"ASH", "i i"}, {"EXPT", "n i"}, {"NUMERATOR", "a"}, {"DENOMINATOR", "a"}, {"COMPLEX", "r [r]"},
		{"REALPART", "n"}, {"IMAGPART", "n"}, {"RATIONAL", "r"}, {"RATIONALIZE", "r"}, {"FLOAT", "r [r]"},
	}
}

func (w *World) numberOperations() map[string]operation {
	reciprocal := func(x api.Form) (api.Form, api.Errno) { return number.Div(integerForm(1), x) }
	not := func(x api.Form) (api.Form, api.Errno) { return number.Sub(integerForm(-1), x) }
	return map[string]operation{
		"+":           w.foldFrom(0, number.Add),
		"*":           w.foldFrom(1, number.Mul),
		"-":           w.difference(number.Neg, number.Sub),
		"/":           w.difference(reciprocal, number.Div),
		"=":           w.chained(number.Equals),
		"/=":          w.distinct,
		"<":           w.ordered(func(sign int) bool { return sign < 0 }),
		"<=":          w.ordered(func(sign int) bool { return sign <= 0 }),
		">":           w.ordered(func(sign int) bool { return sign > 0 }),
		">=":          w.ordered(func(sign int) bool { return sign >= 0 }),
		"MAX":         w.extreme(1),
		"MIN":         w.extreme(-1),
		"ABS":         w.unary(number.Abs),
		"GCD":         w.nary(number.Gcd),
		"LCM":         w.nary(number.Lcm),
		"LOGAND":      w.foldFrom(-1, boole(opAnd)),
		"LOGIOR":      w.foldFrom(0, boole(opInclusive)),
		"LOGXOR":      w.foldFrom(0, boole(opExclusive)),
		"LOGNOT":      w.unary(not),
		"ASH":         w.shift,
		"EXPT":        w.power,
		"NUMERATOR":   w.unary(number.Numerator),
		"DENOMINATOR": w.unary(number.Denominator),
		"COMPLEX":     w.complex,
		"REALPART":    w.unary(number.Real),
		"IMAGPART":    w.unary(number.Imaginary),
		"RATIONAL":    w.unary(number.Rational),
		"RATIONALIZE": w.unary(number.Rationalize),
		"FLOAT":       w.float,
	}
}

func boole(op int) binary {
	return func(x, y api.Form) (api.Form, api.Errno) { return number.Boole(op, x, y) }
}

func (w *World) quotientOperations() map[string]operation {
	return map[string]operation{
		"FLOOR":    w.quotient(wayFloor),
		"CEILING":  w.quotient(wayCeiling),
		"TRUNCATE": w.quotient(wayTruncate),
		"ROUND":    w.quotient(wayRound),
		"MOD":      w.remainder(wayFloor),
		"REM":      w.remainder(wayTruncate),
	}
}

// withSecond returns the forms of one or two numbers, the second one of which is n if it was left out.
func (w *World) withSecond(l []heap.Word, n int) (x, y api.Form) {
	all := w.numbers(append(slices.Clone(l), fixnum(n)))
	return all[0], all[1]
}

// divide returns a quotient and what is left.
func (w *World) divide(way int, l []heap.Word) (quotient, remainder api.Form) {
	x, y := w.withSecond(l, 1)
	quotient, remainder, e := number.Quotient(way, x, y)
	w.check(e, l)
	return quotient, remainder
}

func (w *World) quotient(way int) operation {
	return func(l []heap.Word) Answer {
		quotient, remainder := w.divide(way, l)
		return values(w.numberObject(quotient), w.numberObject(remainder))
	}
}

func (w *World) remainder(way int) operation {
	return func(l []heap.Word) Answer {
		_, remainder := w.divide(way, l)
		return values(w.numberObject(remainder))
	}
}

// between returns the value of an integer, and on which side of the bounds -most and most it lies; beyond them it is the nearest bound.
func (w *World) between(x heap.Word, most int) (value, side int) {
	n, ok := x.Fixnum()
	switch {
	case ok && n >= int64(-most) && n <= int64(most):
		return int(n), 0
	case w.isNegative(x):
		return -most, -1
	}
	return most, 1
}

func (w *World) shift(l []heap.Word) Answer {
	n, side := w.between(l[1], maxShift)
	if side > 0 && l[0] != fixnum(0) {
		w.fail(arithmetic)
	}
	x, e := number.Shift(w.numbers(l)[0], n)
	return w.result(x, e, l)
}

func (w *World) power(l []heap.Word) Answer {
	n, side := w.between(l[1], maxPower)
	if side != 0 {
		w.fail(arithmetic)
	}
	x, e := number.Power(w.numbers(l)[0], n)
	return w.result(x, e, l)
}

func (w *World) complex(l []heap.Word) Answer {
	x, e := number.Complex(w.withSecond(l, 0))
	return w.result(x, e, l)
}

func (w *World) float(l []heap.Word) Answer {
	kind := api.FormSingle
	if len(l) > 1 && w.isFloat(l[1]) {
		kind = w.heap.Kind(l[1])
	} else if w.isFloat(l[0]) {
		return values(l[0])
	}
	x, e := number.Float(w.numbers(l)[0], kind)
	return w.result(x, e, l)
}
