package number

import (
	"math"
	"strings"
	"testing"

	"commonform/api"
	"commonform/float"
	"commonform/rational"
)

// P5.1: Quotient.
func TestQuotient(t *testing.T) {
	huge := strings.Repeat("9", 400)
	for _, c := range []struct {
		way        int
		x, y, q, r string
	}{
		{Floor, "-3.5", "2", "-2", "0.5"}, {Ceiling, "-3.5", "2", "-1", "-1.5"}, {Truncate, "-3.5", "2", "-1", "-1.5"}, {Round, "-3.5", "2", "-2", "0.5"}, {Round, "5", "2", "2", "1"}, {Round, "7", "2", "4", "-1"}, {Floor, "7", "-2", "-4", "-1"}, {Floor, "7/2", "1/3", "10", "1/6"},
		{Floor, "1", "0.1", "9", "0.09999999"}, {Floor, "1", "0.1d0", "9", "0.09999999999999995d0"}, {Floor, "0.5", "1d0", "0", "0.5d0"}, {Floor, "6.0", "3", "2", "0.0"}, {Floor, "-6.0", "3", "-2", "0.0"}, {Floor, "-0.0", "3", "0", "0.0"}, {Truncate, "1e30", "7", "142857145006780888553812693577", "1.0"},
		{Floor, "1", "0", "6", ""}, {Floor, "1.0", "0.0", "6", ""}, {Floor, "1.0", "-0.0", "6", ""}, {4, "1", "0", "1", ""}, {-1, "1", "2", "1", ""}, {math.MinInt, "1", "2", "1", ""}, {math.MaxInt, "1", "2", "1", ""}, {9, "#C(0 1)", "0", "13", ""}, {9, "1", "#C(0 1)", "13", ""},
		{Floor, huge, "1.0", "15", ""}, {Floor, "1d0", huge, "15", ""}, {Floor, "1.0", huge, "15", ""}, {Floor, "1.0", "1/" + huge, huge, "0.0"}, {4, huge, "1.0", "1", ""}, {Floor, huge, "0.0", "6", ""},
	} {
		q, r, e := Quotient(c.way, num(t, c.x), num(t, c.y))
		rest := ""
		if e == api.OK {
			rest = show(r, e)
		}
		if s := show(q, e); s != c.q || rest != c.r || e != api.OK && r.Kind != 0 {
			t.Errorf("way %d of %.30s and %.30s: %.30s, %.30s; want %.30s, %s", c.way, c.x, c.y, s, rest, c.q, c.r)
		}
	}
}

// P5.4.
func TestQuotientLaws(t *testing.T) {
	eachSome(t, 1, func(x, y, z api.Form) {
		if x.Kind == api.FormComplex || y.Kind == api.FormComplex || eql(y, wholeText("0")) {
			return
		}
		for way := range 4 {
			q, r, e := Quotient(way, x, y)
			if e != api.OK || q.Kind != api.FormInt || Check(r) != api.OK {
				t.Errorf("way %d of %v and %v: %v, %v, %v", way, x, y, q, r, e)
				continue
			}
			if sum := must(t)(Add(must(t)(Mul(y, q)), r)); !eql(sum, x) {
				t.Errorf("way %d of %v and %v: %v, %v", way, x, y, q, r)
			}
		}
	})
	eachSome(t, 3, func(x, y, z api.Form) { // of floats the exact quotient is rounded
		if equal, _ := Equals(y, wholeText("0")); equal {
			return
		}
		a, b := must(t)(Rational(x)), must(t)(Rational(y))
		for way := range 4 {
			q, r, _ := Quotient(way, x, y)
			exactly, rest, _ := Quotient(way, a, b)
			kind := max(x.Kind, y.Kind)
			if kind > api.FormRatio {
				rest = must(t)(Float(rest, kind))
			}
			if !eql(q, exactly) || !eql(r, rest) {
				t.Errorf("way %d of %v and %v: %v, %v; want %v, %v", way, x, y, q, r, exactly, rest)
			}
		}
	})
}

// P5.1: parts.
func TestParts(t *testing.T) {
	for _, c := range []struct{ x, re, im, conjugate, n, d string }{
		{"3", "3", "0", "3", "3", "1"}, {"-6/4", "-3/2", "0", "-3/2", "-3", "2"}, {"0", "0", "0", "0", "0", "1"}, {"2.5", "2.5", "0.0", "2.5", "13", "13"}, {"-2.5d0", "-2.5d0", "0.0d0", "-2.5d0", "13", "13"}, {"-0.0", "-0.0", "0.0", "-0.0", "13", "13"}, {"#C(1/2 3)", "1/2", "3", "#C(1/2 -3)", "13", "13"}, {"#C(1.0 0.0)", "1.0", "0.0", "#C(1.0 -0.0)", "13", "13"},
	} {
		x := num(t, c.x)
		if re, im, other := show(Real(x)), show(Imaginary(x)), show(Conjugate(x)); re != c.re || im != c.im || other != c.conjugate {
			t.Errorf("of %s: %s, %s, %s", c.x, re, im, other)
		}
		if n, d := show(Numerator(x)), show(Denominator(x)); n != c.n || d != c.d {
			t.Errorf("of %s: %s, %s", c.x, n, d)
		}
	}
	huge := strings.Repeat("9", 400)
	for _, c := range []struct{ re, im, want string }{
		{"1", "0", "1"}, {"1/2", "0", "1/2"}, {"1", "2", "#C(1 2)"}, {"0", "1/2", "#C(0 1/2)"}, {"1", "2.0", "#C(1.0 2.0)"}, {"1.0", "0", "#C(1.0 0.0)"}, {"1.0", "2d0", "#C(1.0d0 2.0d0)"}, {"-0.0", "0d0", "#C(-0.0d0 0.0d0)"}, {"0", "-0.0", "#C(0.0 -0.0)"}, {huge, "1.0", "15"}, {"1.0", huge, "15"}, {"#C(0 1)", "1", "13"}, {"1", "#C(0 1)", "13"},
	} {
		if s := show(Complex(num(t, c.re), num(t, c.im))); s != c.want {
			t.Errorf("Complex of %.30s and %.30s = %s; want %s", c.re, c.im, s, c.want)
		}
	}
}

// P5.1: changes of kind.
func TestKinds(t *testing.T) {
	huge := strings.Repeat("9", 400)
	for _, c := range []struct {
		x    string
		kind int
		want string
	}{
		{"1/4", api.FormDouble, "0.25d0"}, {"1/3", api.FormSingle, "0.33333334"}, {"0.1", api.FormDouble, "0.10000000149011612d0"}, {"0.1d0", api.FormSingle, "0.1"}, {"-0.0", api.FormDouble, "-0.0d0"}, {"-0d0", api.FormSingle, "-0.0"}, {"-1/" + huge, api.FormDouble, "-0.0d0"}, {"#C(1 2)", api.FormSingle, "#C(1.0 2.0)"}, {"#C(1d0 -0d0)", api.FormSingle, "#C(1.0 -0.0)"}, {"1.5", api.FormSingle, "1.5"},
		{huge, api.FormDouble, "15"}, {"1d39", api.FormSingle, "15"}, {"#C(1d39 1d0)", api.FormSingle, "15"}, {"#C(1d0 1d39)", api.FormSingle, "15"},
		{"1", api.FormInt, "1"}, {"1.5", api.FormRatio, "1"}, {"1", api.FormComplex, "1"}, {huge, 0, "1"}, {"1", -1, "1"}, {"1", 99, "1"},
	} {
		if s := show(Float(num(t, c.x), c.kind)); s != c.want {
			t.Errorf("Float of %.30s and %d = %s; want %s", c.x, c.kind, s, c.want)
		}
	}
	for _, c := range []struct{ x, rational, rationalize string }{
		{"0.33333334", "11184811/33554432", "1/3"}, {"0.0", "0", "0"}, {"-0.0", "0", "0"}, {"-0d0", "0", "0"}, {"0.1", "13421773/134217728", "1/10"}, {"-0.1", "-13421773/134217728", "-1/10"}, {"2/3", "2/3", "2/3"}, {"16777218.0", "16777218", "16777218"}, {"16777216.0", "16777216", "16777216"}, {"1.5d0", "3/2", "3/2"}, {"0.1d0", "3602879701896397/36028797018963968", "1/10"}, {"3.1415927", "13176795/4194304", "93343/29712"}, {"#C(1.0 0.0)", "13", "13"}, {"5.0", "5", "5"},
		{"33554432.0", "33554432", "33554431"},                                         // the end half-way below belongs to a float with an even significand
		{"33554436.0", "33554436", "33554435"}, {"33554430.0", "33554430", "33554430"}, // and to none with an odd one
		{"9.313226e-10", "1/1073741824", "1/1073741761"}, // the float above is farther away than that below
		{"3.4028235e38", "340282346638528859811704183484516925440", "340282336497324057985868971510891282433"},
	} {
		if a, b := show(Rational(num(t, c.x))), show(Rationalize(num(t, c.x))); a != c.rational || b != c.rationalize {
			t.Errorf("of %s: %s, %s; want %s, %s", c.x, a, b, c.rational, c.rationalize)
		}
	}
	if s := show(Rationalize(singleBits("00000001"))); s != "1/475749230901986627019428656483165045460915542" {
		t.Errorf("Rationalize of the least float = %s", s)
	}
	if s := show(Rationalize(num(t, "3.0d0"))); s != "3" {
		t.Errorf("Rationalize of 3.0d0 = %s", s)
	}
}

// P5.6.
func TestKindLaws(t *testing.T) {
	check := func(x api.Form) {
		want := x
		if equal, _ := Equals(x, wholeText("0")); equal {
			want = must(t)(Float(wholeText("0"), x.Kind))
		}
		for _, f := range []func(api.Form) (api.Form, api.Errno){Rational, Rationalize} {
			r := must(t)(f(x))
			if r.Kind > api.FormRatio {
				t.Errorf("%v is not rational", r)
			}
			if back := must(t)(Float(r, x.Kind)); !eql(back, want) {
				t.Errorf("Float of %v = %v; want %v", r, back, want)
			}
		}
	}
	eachSome(t, 3, func(x, y, z api.Form) {
		if x.Kind == api.FormSingle || x.Kind == api.FormDouble {
			check(x)
		}
	})
	for _, text := range []string{"00000001", "00000002", "00000003", "007fffff", "00800000", "00800001", "7f7fffff", "7f000000", "80000001", "ff7fffff", "3f800000", "3f7fffff"} {
		check(singleBits(text))
	}
	for _, text := range []string{"0000000000000001", "0010000000000000", "7fefffffffffffff", "7fe0000000000000"} {
		check(api.Form{Kind: api.FormDouble, Text: text})
	}
}

// P5.6: no simpler fraction is read as the float. All fractions with less denominators, and the least numerators, are tried.
func TestRationalizeIsSimplest(t *testing.T) {
	for _, text := range []string{"0.3", "0.142857", "1.7", "2.718", "0.0101", "12.34", "0.5", "3.1416", "0.33333334", "0.6666667", "9.25", "0.015625"} {
		x := num(t, text)
		best, _ := decode(must(t)(Rationalize(x)))
		value, _ := decode(x)
		d, _ := best.parts[0].ratio.Denominator().Int64()
		for q := int64(1); q <= min(d, 4000); q++ {
			scaled := value.parts[0].value().Mul(rational.Of(intOf(q)))
			n, _, _ := scaled.Quotient(rational.Floor, rational.Of(intOf(1)))
			for step := range int64(2) {
				p := n.Add(intOf(step))
				other, _ := rational.New(p, intOf(q))
				bits, _ := float.Nearest(float.Single, other)
				if bits != value.parts[0].bits {
					continue
				}
				if q < d || p.Abs().Cmp(best.parts[0].ratio.Numerator().Abs()) < 0 {
					s, _ := other.Text(10)
					t.Errorf("%s is read as %s, and is simpler", s, text)
				}
			}
		}
	}
}

// P5.1 and P5.7: integers.
func TestIntegers(t *testing.T) {
	list := func(l ...string) []api.Form {
		var all []api.Form
		for _, s := range l {
			all = append(all, num(t, s))
		}
		return all
	}
	big := must(t)(Shift(wholeText("1"), 60000))
	other := must(t)(Power(wholeText("3"), 4000))
	for _, c := range []struct {
		l        []api.Form
		gcd, lcm string
	}{
		{nil, "0", "1"}, {list("12", "-18"), "6", "36"}, {list("4", "6"), "2", "12"}, {list("0"), "0", "0"}, {list("0", "-5"), "5", "0"}, {list("-7"), "7", "7"}, {list("6", "10", "15"), "1", "30"}, {list("1.0"), "13", "13"}, {list("2", "1/2"), "13", "13"}, {list("2", "#C(0 1)"), "13", "13"}, {list("0", "1.0"), "13", "13"},
		{[]api.Form{big, other}, "1", "14"}, {[]api.Form{big, other, wholeText("0")}, "1", "0"}, {[]api.Form{wholeText("1.0"), num(t, "1.0")}, "2", "2"}, {[]api.Form{num(t, "1.0"), wholeText("01")}, "13", "13"},
		{[]api.Form{must(t)(Shift(wholeText("1"), api.MaxBits-1))}, show(Shift(wholeText("1"), api.MaxBits-1)), show(Shift(wholeText("1"), api.MaxBits-1))},
		{[]api.Form{wholeText(strings.Repeat("9", api.MaxDigits))}, strings.Repeat("9", api.MaxDigits), "14"},
	} {
		if g, l := show(Gcd(c.l)), show(Lcm(c.l)); g != c.gcd || l != c.lcm {
			t.Errorf("Gcd %.30s, Lcm %.30s; want %.30s, %.30s", g, l, c.gcd, c.lcm)
		}
	}
	eachSome(t, 1, func(x, y, z api.Form) {
		if x.Kind != api.FormInt || y.Kind != api.FormInt {
			return
		}
		product := must(t)(Mul(must(t)(Gcd([]api.Form{x, y})), must(t)(Lcm([]api.Form{x, y}))))
		if want := must(t)(Abs(must(t)(Mul(x, y)))); !eql(product, want) {
			t.Errorf("Gcd times Lcm of %v and %v = %v", x, y, product)
		}
	})
	for _, c := range []struct {
		op         int
		x, y, want string
	}{
		{8, "12", "10", "8"}, {14, "12", "10", "14"}, {6, "-4", "7", "-5"}, {3, "5", "9", "-6"}, {16, "1", "1", "1"}, {-1, "1", "1", "1"}, {16, "1.0", "1", "13"}, {16, "1", "1/2", "13"}, {8, "#C(0 1)", "1", "13"},
	} {
		if s := show(Boole(c.op, num(t, c.x), num(t, c.y))); s != c.want {
			t.Errorf("Boole %d of %s and %s = %s", c.op, c.x, c.y, s)
		}
	}
	for _, c := range []struct {
		x    string
		n    int
		want string
	}{{"-5", -1, "-3"}, {"5", 3, "40"}, {"1", api.MaxBits, "14"}, {"1", math.MaxInt, "14"}, {"0", math.MaxInt, "0"}, {"-1", math.MinInt, "-1"}, {"1.0", 1, "13"}, {"1/2", 1, "13"}, {"#C(0 1)", math.MaxInt, "13"}} {
		if s := show(Shift(num(t, c.x), c.n)); s != c.want {
			t.Errorf("Shift of %s by %d = %s", c.x, c.n, s)
		}
	}
}
