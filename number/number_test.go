package number

import (
	"math"
	"strings"
	"testing"

	"commonform/api"
)

// P5.1: the error of a number.
func TestCheck(t *testing.T) {
	one, half := wholeText("1"), api.Form{Kind: api.FormRatio, Text: "1/2"}
	zero := singleBits("00000000")
	long := strings.Repeat("7", api.MaxDigits)
	double := api.Form{Kind: api.FormDouble, Text: "0000000000000000"}
	withKids := func(x api.Form) api.Form {
		x.Kids = []api.Form{one}
		return x
	}
	withHome := func(x api.Form) api.Form {
		x.Home = "H"
		return x
	}
	for _, c := range []struct {
		x    api.Form
		want api.Errno
	}{
		{one, api.OK}, {wholeText("-12"), api.OK}, {wholeText("0"), api.OK}, {wholeText(long), api.OK}, {half, api.OK}, {api.Form{Kind: api.FormRatio, Text: "-3/2"}, api.OK}, {zero, api.OK}, {singleBits("80000000"), api.OK}, {singleBits("ff7fffff"), api.OK}, {double, api.OK}, {pair(one, half), api.OK}, {pair(wholeText("0"), one), api.OK}, {pair(wholeText(long), wholeText(long)), api.OK}, {pair(zero, zero), api.OK}, {pair(double, double), api.OK},
		{api.Form{}, api.ErrType}, {api.Form{Kind: api.FormSymbol, Text: "1"}, api.ErrType}, {api.Form{Kind: api.FormChar, Text: "1"}, api.ErrType}, {api.Form{Kind: api.FormString, Text: long + "7"}, api.ErrType}, {api.Form{Kind: -1}, api.ErrType}, {api.Form{Kind: 99}, api.ErrType},
		{wholeText(long + "7"), api.ErrLarge}, {wholeText(long + "?"), api.ErrLarge}, {singleBits(long + "?"), api.ErrLarge}, {pair(one, wholeText(long+"7")), api.ErrLarge}, {pair(wholeText("01"), wholeText(long+"7")), api.ErrLarge}, {api.Form{Kind: api.FormComplex, Text: long + "?"}, api.ErrLarge},
		{wholeText(""), api.ErrForm}, {wholeText("-"), api.ErrForm}, {wholeText("+1"), api.ErrForm}, {wholeText("01"), api.ErrForm}, {wholeText("-0"), api.ErrForm}, {wholeText("-01"), api.ErrForm}, {wholeText("00"), api.ErrForm}, {wholeText("--1"), api.ErrForm}, {wholeText("-+1"), api.ErrForm}, {wholeText("1a"), api.ErrForm}, {wholeText("1/2"), api.ErrForm}, {withKids(one), api.ErrForm}, {withHome(one), api.ErrForm},
		{api.Form{Kind: api.FormRatio, Text: "1"}, api.ErrForm}, {api.Form{Kind: api.FormRatio, Text: "4/2"}, api.ErrForm}, {api.Form{Kind: api.FormRatio, Text: "2/4"}, api.ErrForm}, {api.Form{Kind: api.FormRatio, Text: "1/1"}, api.ErrForm}, {api.Form{Kind: api.FormRatio, Text: "1/0"}, api.ErrForm}, {api.Form{Kind: api.FormRatio, Text: "0/2"}, api.ErrForm}, {api.Form{Kind: api.FormRatio, Text: "1/-2"}, api.ErrForm}, {api.Form{Kind: api.FormRatio, Text: "+1/2"}, api.ErrForm}, {api.Form{Kind: api.FormRatio, Text: "1/02"}, api.ErrForm}, {api.Form{Kind: api.FormRatio, Text: "1/2/3"}, api.ErrForm}, {api.Form{Kind: api.FormRatio, Text: "-/2"}, api.ErrForm}, {withKids(half), api.ErrForm}, {withHome(half), api.ErrForm},
		{api.Form{Kind: api.FormRatio, Text: "2" + strings.Repeat("0", 30) + "/4" + strings.Repeat("0", 30)}, api.ErrForm},
		{singleBits("7f800000"), api.ErrForm}, {singleBits("ffc00000"), api.ErrForm}, {singleBits("3F800000"), api.ErrForm}, {singleBits("0"), api.ErrForm}, {singleBits("000000000"), api.ErrForm}, {singleBits("+0000000"), api.ErrForm}, {singleBits("0000000g"), api.ErrForm}, {withKids(zero), api.ErrForm}, {withHome(zero), api.ErrForm}, {api.Form{Kind: api.FormDouble, Text: "7ff0000000000000"}, api.ErrForm}, {api.Form{Kind: api.FormDouble, Text: "00000000"}, api.ErrForm},
		{pair(one, wholeText("0")), api.ErrForm}, {pair(one, zero), api.ErrForm}, {pair(zero, double), api.ErrForm}, {pair(wholeText("01"), one), api.ErrForm}, {pair(one, wholeText("01")), api.ErrForm}, {pair(one, pair(one, one)), api.ErrForm}, {pair(one, api.Form{Kind: api.FormString}), api.ErrForm}, {api.Form{Kind: api.FormComplex}, api.ErrForm}, {api.Form{Kind: api.FormComplex, Kids: []api.Form{one}}, api.ErrForm}, {api.Form{Kind: api.FormComplex, Kids: []api.Form{one, one, one}}, api.ErrForm}, {api.Form{Kind: api.FormComplex, Text: "1", Kids: []api.Form{one, one}}, api.ErrForm}, {withHome(pair(one, one)), api.ErrForm}, {pair(withHome(one), one), api.ErrForm}, {pair(one, singleBits("7f800000")), api.ErrForm},
	} {
		if e := Check(c.x); e != c.want {
			t.Errorf("Check(%.50v) = %v; want %v", c.x, e, c.want)
		}
	}
}

// P5.1: all functions return first the errors of their numbers, in order, and with an error nothing else.
func TestErrorsOfNumbers(t *testing.T) {
	one, bad, none := wholeText("1"), wholeText("01"), api.Form{Kind: api.FormString}
	z := pair(one, one)
	two := map[string]func(x, y api.Form) (api.Form, api.Errno){
		"Add": Add, "Sub": Sub, "Mul": Mul, "Div": Div, "Complex": Complex,
		"Boole": func(x, y api.Form) (api.Form, api.Errno) { return Boole(99, x, y) },
		"quotient": func(x, y api.Form) (api.Form, api.Errno) {
			q, r, e := Quotient(99, x, y)
			if r.Kind != 0 {
				t.Error("a remainder with an error")
			}
			return q, e
		},
	}
	for name, f := range two {
		for _, c := range []struct {
			x, y api.Form
			want string
		}{{bad, none, "2"}, {none, bad, "13"}, {one, none, "13"}, {one, bad, "2"}, {z, bad, "2"}} {
			if s := show(f(c.x, c.y)); s != c.want {
				t.Errorf("%s: %s; want %s", name, s, c.want)
			}
		}
	}
	for name, f := range map[string]func(x api.Form) (api.Form, api.Errno){
		"Neg": Neg, "Root": Root, "Abs": Abs, "Signum": Signum, "Real": Real, "Imaginary": Imaginary, "Conjugate": Conjugate, "Numerator": Numerator, "Denominator": Denominator, "Rational": Rational, "Rationalize": Rationalize,
		"Power":    func(x api.Form) (api.Form, api.Errno) { return Power(x, 9999) },
		"Float":    func(x api.Form) (api.Form, api.Errno) { return Float(x, 99) },
		"Shift":    func(x api.Form) (api.Form, api.Errno) { return Shift(x, 99) },
		"Gcd":      func(x api.Form) (api.Form, api.Errno) { return Gcd([]api.Form{one, x, none}) },
		"Lcm":      func(x api.Form) (api.Form, api.Errno) { return Lcm([]api.Form{wholeText("0"), x, none}) },
		"Greatest": func(x api.Form) (api.Form, api.Errno) { return Greatest([]api.Form{one, x, none}) },
		"Print": func(x api.Form) (api.Form, api.Errno) {
			s, e := Print(x, 99, false, false)
			return api.Form{Text: s}, e
		},
	} {
		if s := show(f(bad)); s != "2" {
			t.Errorf("%s: %s; want ErrForm", name, s)
		}
		if s := show(f(none)); s != "13" {
			t.Errorf("%s: %s; want ErrType", name, s)
		}
	}
	for name, f := range map[string]func(x, y api.Form) (bool, api.Errno){"Equals": Equals, "Eql": Eql, "Cmp": func(x, y api.Form) (bool, api.Errno) {
		c, e := Cmp(x, y)
		return c != 0, e
	}} {
		if is, e := f(bad, none); is || e != api.ErrForm {
			t.Errorf("%s: %v, %v", name, is, e)
		}
		if is, e := f(one, none); is || e != api.ErrType {
			t.Errorf("%s: %v, %v", name, is, e)
		}
	}
}

// P5.1: sums, products and so on, with contagion.
func TestArithmetic(t *testing.T) {
	type operation = func(x, y api.Form) (api.Form, api.Errno)
	huge := strings.Repeat("9", 400)
	for _, c := range []struct {
		f    operation
		x, y string
		want string
	}{
		{Add, "1/2", "1/2", "1"}, {Add, "1/2", "1.0", "1.5"}, {Add, "1.0", "1d0", "2.0d0"}, {Add, "-0.0", "-0.0", "-0.0"}, {Add, "-0.0", "0", "0.0"}, {Add, "0.1", "1d0", "1.1000000014901161d0"}, {Add, "#C(1 2)", "#C(3 -2)", "4"}, {Add, "#C(1 2)", "1.0", "#C(2.0 2.0)"}, {Add, "1.0", "#C(1 2)", "#C(2.0 2.0)"}, {Add, "#C(1.0 2.0)", "#C(1d0 -2d0)", "#C(2.0d0 0.0d0)"}, {Add, "#C(1/2 1/3)", "1/2", "#C(1 1/3)"},
		{Sub, "#C(0 1)", "2", "#C(-2 1)"}, {Sub, "2", "#C(0 1)", "#C(2 -1)"}, {Sub, "1.0", "1.0", "0.0"}, {Sub, "0.0", "0.0", "0.0"}, {Sub, "1", "1/3", "2/3"}, {Sub, "#C(1 1)", "#C(1 1)", "0"}, {Sub, "-0.0", "0", "-0.0"},
		{Mul, "#C(1 1)", "#C(1 -1)", "2"}, {Mul, "2/3", "3/2", "1"}, {Mul, "0", "1.5", "0.0"}, {Mul, "-1", "0.0", "-0.0"}, {Mul, "2", "#C(1.5 2.0)", "#C(3.0 4.0)"}, {Mul, "#C(0 1)", "#C(0 1)", "-1"}, {Mul, "#C(1.0 0.0)", "0", "#C(0.0 0.0)"}, {Mul, "0", "#C(1 2)", "0"},
		{Mul, "1.0", "#C(-0.0 -0.0)", "#C(0.0 -0.0)"}, // -0.0 - (0 by -0.0, which is -0.0) is 0.0; -0.0 + (0 by -0.0) is -0.0
		{Div, "1", "#C(0 1)", "#C(0 -1)"}, {Div, "1", "3", "1/3"}, {Div, "6", "-3", "-2"}, {Div, "1", "3.0", "0.33333334"}, {Div, "#C(1 2)", "#C(1 2)", "1"}, {Div, "#C(2.0 4.0)", "2", "#C(1.0 2.0)"}, {Div, "#C(1 1)", "1d0", "#C(1.0d0 1.0d0)"},
		{Div, "1", "0", "6"}, {Div, "1.0", "0", "6"}, {Div, "1", "0.0", "6"}, {Div, "1.0", "-0.0", "6"}, {Div, "#C(1 1)", "0", "6"}, {Div, "#C(1 1)", "#C(0.0 0.0)", "6"}, {Div, "1.0", "1/" + huge, "6"}, {Div, "0", "0", "6"},
		{Add, huge, "1.0", "15"}, {Add, "1d0", huge, "15"}, {Mul, "1e38", "1e38", "15"}, {Sub, "-3e38", "3e38", "15"}, {Div, "1e38", "1e-38", "15"}, {Div, huge, "0.0", "15"}, {Add, "1/" + huge, "1.0", "1.0"}, {Mul, "#C(1e38 1e38)", "#C(1e38 1e38)", "15"}, {Add, huge, "#C(1.0 1.0)", "15"}, {Mul, "#C(1e-38 1e-38)", "#C(1e-38 1e-38)", "#C(0.0 0.0)"}, {Div, "1.0", "#C(1e30 1e30)", "15"}, {Div, "1.0", "#C(1e-30 1e-30)", "6"},
	} {
		if s := show(c.f(num(t, c.x), num(t, c.y))); s != c.want {
			t.Errorf("of %.40s and %.40s comes %s; want %s", c.x, c.y, s, c.want)
		}
	}
}

// P5.1: Texts of results that would be too long.
func TestLargeResults(t *testing.T) {
	nines := strings.Repeat("9", api.MaxDigits)
	x := wholeText(nines)
	ten := wholeText("1" + strings.Repeat("0", 12000))
	ratio := api.Form{Kind: api.FormRatio, Text: "1/1" + strings.Repeat("0", 12000)}
	for name, s := range map[string]string{
		"Add":       show(Add(x, wholeText("1"))),
		"Neg":       show(Neg(x)),
		"Sub":       show(Sub(wholeText("0"), x)),
		"Mul":       show(Mul(ten, ten)),
		"Div":       show(Div(wholeText("1"), x)),
		"a part":    show(Add(pair(wholeText("1"), x), pair(wholeText("1"), wholeText("1")))),
		"Conjugate": show(Conjugate(pair(wholeText("1"), x))),
		"Boole":     show(Boole(3, x, x)),
		"Mul, too":  show(Mul(ratio, ratio)),
		"Power":     show(Power(ratio, 2)),
		"Rational":  show(Complex(wholeText("1"), api.Form{Kind: api.FormRatio, Text: nines + "/2"})),
		"Lcm":       show(Lcm([]api.Form{x})),
		"Shift":     show(Shift(x, 1)),
		"Read":      show(Read(strings.Repeat("Z", api.MaxDigits), 36, false)),
	} {
		if s != "14" {
			t.Errorf("%s: %.30s; want ErrLarge", name, s)
		}
	}
	if _, _, e := Quotient(Floor, x, api.Form{Kind: api.FormRatio, Text: "1/10"}); e != api.ErrLarge {
		t.Errorf("Quotient: %v", e)
	}
	if s := show(Sub(x, wholeText("1"))); s != nines[1:]+"8" {
		t.Errorf("Sub: %.30s", s)
	}
	if s := show(Conjugate(pair(x, x))); s != "14" {
		t.Errorf("Conjugate: %.30s", s)
	}
	if s := show(Conjugate(pair(x, wholeText("-"+nines[1:])))); s != "#C("+nines+" "+nines[1:]+")" {
		t.Errorf("Conjugate: %.30s", s)
	}
	if z, e := Complex(x, x); e != api.OK || Check(z) != api.OK {
		t.Errorf("Complex: %v", e)
	}
	if s := show(Abs(wholeText("-" + nines[1:]))); s != nines[1:] {
		t.Errorf("Abs: %.30s", s)
	}
	if s := show(Neg(wholeText("-" + nines[1:]))); s != nines[1:] {
		t.Errorf("Neg: %.30s", s)
	}
}

// P5.2.
func TestField(t *testing.T) {
	right := must(t)
	add := func(x, y api.Form) api.Form { return right(Add(x, y)) }
	mul := func(x, y api.Form) api.Form { return right(Mul(x, y)) }
	eachSome(t, 1, func(x, y, z api.Form) {
		for name, holds := range map[string]bool{
			"Add is commutative":  eql(add(x, y), add(y, x)),
			"Mul is commutative":  eql(mul(x, y), mul(y, x)),
			"Add is associative":  eql(add(add(x, y), z), add(x, add(y, z))),
			"Mul is associative":  eql(mul(mul(x, y), z), mul(x, mul(y, z))),
			"Mul is distributive": eql(mul(x, add(y, z)), add(mul(x, y), mul(x, z))),
			"Sub undoes Add":      eql(right(Sub(add(x, y), y)), x),
			"Neg":                 eql(right(Neg(x)), right(Sub(wholeText("0"), x))),
		} {
			if !holds {
				t.Errorf("%s: not for %v, %v, %v", name, x, y, z)
			}
		}
		if eql(y, wholeText("0")) {
			return
		}
		if !eql(right(Div(mul(x, y), y)), x) {
			t.Errorf("Div does not undo Mul for %v, %v", x, y)
		}
	})
	eachSome(t, 4, func(x, y, z api.Form) { // results are in canonical form
		for _, f := range []func(x, y api.Form) (api.Form, api.Errno){Add, Sub, Mul} {
			right(f(x, y))
		}
		for _, f := range []func(x api.Form) (api.Form, api.Errno){Neg, Real, Imaginary, Conjugate} {
			right(f(x))
		}
		if back := right(Neg(right(Neg(x)))); !eql(back, x) {
			t.Errorf("Neg of Neg of %v = %v", x, back)
		}
	})
}

// P5.5.
func TestContagion(t *testing.T) {
	rank := func(x api.Form) int { return max(x.Kind, api.FormRatio) }
	eachSome(t, 3, func(x, y, z api.Form) {
		for _, f := range []func(x, y api.Form) (api.Form, api.Errno){Add, Sub, Mul} {
			if r := must(t)(f(x, y)); rank(r) != max(rank(x), rank(y)) {
				t.Errorf("of %v and %v comes %v", x, y, r)
			}
		}
	})
}

// P5.1: signs.
func TestSigns(t *testing.T) {
	for _, c := range []struct{ x, neg, abs, signum string }{
		{"3", "-3", "3", "1"}, {"-3", "3", "3", "-1"}, {"0", "0", "0", "0"}, {"-3/4", "3/4", "3/4", "-1"}, {"3/4", "-3/4", "3/4", "1"}, {"2.5", "-2.5", "2.5", "1.0"}, {"-2.5", "2.5", "2.5", "-1.0"}, {"0.0", "-0.0", "0.0", "0.0"}, {"-0.0", "0.0", "0.0", "-0.0"}, {"-2.5d0", "2.5d0", "2.5d0", "-1.0d0"}, {"-0d0", "0.0d0", "0.0d0", "-0.0d0"},
		{"#C(0 1)", "#C(0 -1)", "13", "13"}, {"#C(0.0 -1.0)", "#C(-0.0 1.0)", "13", "13"},
	} {
		x := num(t, c.x)
		if a, b, d := show(Neg(x)), show(Abs(x)), show(Signum(x)); a != c.neg || b != c.abs || d != c.signum {
			t.Errorf("of %s: Neg %s, Abs %s, Signum %s", c.x, a, b, d)
		}
	}
}

// P5.1 and P5.8: powers.
func TestPowers(t *testing.T) {
	for _, c := range []struct {
		x    string
		n    int
		want string
	}{
		{"3/2", -2, "4/9"}, {"0.0", 0, "1"}, {"0", 0, "1"}, {"#C(1.0 2.0)", 0, "1"}, {"1.5", 1, "1.5"}, {"#C(0 1)", 1, "#C(0 1)"}, {"#C(0 1)", 2, "-1"}, {"#C(0 1)", 3, "#C(0 -1)"}, {"#C(0 1)", -1, "#C(0 -1)"}, {"2", 10, "1024"}, {"-2", 3, "-8"}, {"-2", -3, "-1/8"}, {"2.0", 10, "1024.0"}, {"2.0", -2, "0.25"}, {"2d0", 2, "4.0d0"}, {"1", 4096, "1"}, {"-1", -4095, "-1"}, {"1.1", 7, "1.9487175"},
		{"0", -1, "6"}, {"0.0", -5, "6"}, {"0", 5, "0"}, {"1e38", 2, "15"}, {"1e38", -2, "15"}, {"1e-38", 2, "0.0"}, {"1e-38", -2, "6"}, {"2", 4097, "1"}, {"0", -4097, "1"}, {"2", math.MinInt, "1"}, {"2", math.MaxInt, "1"},
	} {
		if s := show(Power(num(t, c.x), c.n)); s != c.want {
			t.Errorf("%s to the power of %d = %s; want %s", c.x, c.n, s, c.want)
		}
	}
	// 2^16 to the power of 4096 has 65537 bits, of 4095 it has 65521
	if s := show(Power(wholeText("65536"), 4096)); s != "14" {
		t.Errorf("65536^4096: %.30s", s)
	}
	if s := show(Power(wholeText("65536"), 4095)); len(s) != 19724 {
		t.Errorf("65536^4095: %.30s", s)
	}
	if s := show(Power(num(t, "1/65536"), 4096)); s != "14" {
		t.Errorf("65536^-4096: %.30s", s)
	}
	if s := show(Power(wholeText("-65536"), -4096)); s != "14" {
		t.Errorf("-65536^-4096: %.30s", s)
	}
	// 2^13107 to the power of 5 has 65536 bits
	most := must(t)(Shift(wholeText("1"), 13107))
	if s := show(Power(most, 5)); len(s) != 19729 {
		t.Errorf("2^65535: %.30s", s)
	}
	if s := show(Power(must(t)(Div(wholeText("1"), most)), 5)); len(s) != 19731 {
		t.Errorf("2^-65535: %.30s", s)
	}
	// a product on the way that is too large, though what it is part of is not: (2^32768)^2 - the same
	big := must(t)(Shift(wholeText("1"), 33000))
	if s := show(Power(pair(big, big), 2)); s != "14" {
		t.Errorf("a complex power: %.30s", s)
	}
	eachSome(t, 1, func(x, y, z api.Form) {
		for n := range 4 {
			for m := range 4 {
				a, b, both := must(t)(Power(x, n)), must(t)(Power(x, m)), must(t)(Power(x, n+m))
				if product := must(t)(Mul(a, b)); !eql(product, both) {
					t.Errorf("powers of %v: %d and %d", x, n, m)
				}
			}
		}
	})
}

// P5.1: Power multiplies in the order of the chapter, which floats show.
func TestPowerOfFloats(t *testing.T) {
	eachSome(t, 4, func(x, y, z api.Form) {
		square, e := Mul(x, x)
		if e != api.OK {
			return
		}
		third, e := Mul(square, x)
		if e != api.OK {
			return
		}
		want, e := Mul(third, third)
		got, d := Power(x, 6)
		if e != d || e == api.OK && !eql(got, want) {
			t.Errorf("%v to the power of 6 = %v, %v; want %v, %v", x, got, d, want, e)
		}
		inverse, e := Div(wholeText("1"), third)
		got, d = Power(x, -3)
		if e != d || e == api.OK && !eql(got, inverse) {
			t.Errorf("%v to the power of -3 = %v, %v; want %v, %v", x, got, d, inverse, e)
		}
	})
}

// P5.1 and P5.8: roots.
func TestRoots(t *testing.T) {
	zeros := strings.Repeat("0", 80)
	for _, c := range []struct{ x, want string }{
		{"9/4", "3/2"}, {"0", "0"}, {"4", "2"}, {"2", "1.4142135"}, {"1/2", "0.70710677"}, {"-4", "#C(0 2)"}, {"-9/4", "#C(0 3/2)"}, {"-2", "#C(0.0 1.4142135)"}, {"4.0", "2.0"}, {"2d0", "1.4142135623730951d0"}, {"-4.0", "#C(0.0 2.0)"}, {"-4d0", "#C(0.0d0 2.0d0)"}, {"0.0", "0.0"}, {"-0.0", "-0.0"}, {"-0d0", "-0.0d0"},
		{"#C(0 1)", "13"}, {"#C(4.0 0.0)", "13"}, {"1" + zeros, "10000000000000000000000000000000000000000"}, {"10" + zeros, "15"}, {"-10" + zeros, "15"}, {"1/10" + zeros, "3.1623e-41"}, {"1/3", "0.57735026"}, {"1/2" + strings.Repeat("0", 90), "1.0e-45"}, {"1/3" + strings.Repeat("0", 90), "0.0"},
	} {
		if s := show(Root(num(t, c.x))); s != c.want {
			t.Errorf("Root of %.50s = %s; want %s", c.x, s, c.want)
		}
	}
	if s := show(Root(api.Form{Kind: api.FormRatio, Text: "1/1" + strings.Repeat("0", 19001)})); s != "0.0" {
		t.Errorf("Root of a tiny number = %s", s)
	}
	if s := show(Root(wholeText("1" + strings.Repeat("0", 19001)))); s != "15" {
		t.Errorf("Root of a great number = %s", s)
	}
	// the square of the number half-way between two floats, and 1 more, or less
	half := wholeText("33554433") // 2^25 + 1
	square := must(t)(Mul(half, half))
	if s := show(Root(square)); s != "33554433" {
		t.Errorf("Root of the square = %s", s)
	}
	above, below := must(t)(Add(square, wholeText("1"))), must(t)(Sub(square, wholeText("1")))
	if a, b := show(Root(above)), show(Root(below)); a != "3.3554432e7" || b != "3.3554432e7" {
		t.Errorf("Roots of its neighbours = %s, %s", a, b)
	}
	// 2^24 + 1 is half-way between 2^24 and 2^24 + 2
	half = wholeText("16777217")
	square = must(t)(Mul(half, half))
	above, below = must(t)(Add(square, num(t, "1/1000000"))), must(t)(Sub(square, num(t, "1/1000000")))
	if a, b := show(Root(above)), show(Root(below)); a != "1.6777218e7" || b != "1.6777216e7" {
		t.Errorf("Roots of neighbours of the square = %s, %s", a, b)
	}
	eachSome(t, 1, func(x, y, z api.Form) {
		if x.Kind == api.FormComplex {
			return
		}
		if root := must(t)(Root(must(t)(Mul(x, x)))); !eql(root, must(t)(Abs(x))) {
			t.Errorf("Root of the square of %v = %v", x, root)
		}
	})
}
