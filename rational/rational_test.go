package rational

import (
	"math"
	"math/big"
	"math/rand"
	"slices"
	"strings"
	"testing"

	"commonform/api"
	"commonform/integer"
)

func whole(n int64) integer.Int { return integer.New(n) }

func frac(n, d int64) Ratio {
	x, _ := New(whole(n), whole(d))
	return x
}

func text(x Ratio) string {
	s, _ := x.Text(10)
	return s
}

func decimal(x integer.Int) string {
	s, _ := x.Text(10)
	return s
}

func toBig(x Ratio) *big.Rat {
	z, _ := new(big.Rat).SetString(text(x))
	return z
}

func fromBig(t *testing.T, z *big.Rat) Ratio {
	t.Helper()
	x, e := Parse(z.RatString(), 10)
	if e != api.OK {
		t.Fatalf("Parse(%s): %v", z, e)
	}
	return x
}

// some makes fractions by chance, many of them small.
func some(t *testing.T, r *rand.Rand) Ratio {
	if r.Intn(3) > 0 {
		return frac(int64(r.Intn(41)-20), int64(1+r.Intn(12)))
	}
	limit := new(big.Int).Lsh(big.NewInt(1), uint(1+r.Intn(150)))
	n, d := new(big.Int).Rand(r, limit), new(big.Int).Rand(r, limit)
	z := new(big.Rat).SetFrac(n, d.Add(d, big.NewInt(1)))
	if r.Intn(2) == 0 {
		z.Neg(z)
	}
	return fromBig(t, z)
}

func eachSome(t *testing.T, test func(x, y, z Ratio)) {
	t.Helper()
	r := rand.New(rand.NewSource(1))
	for range 3000 {
		test(some(t, r), some(t, r), some(t, r))
	}
}

func same(x, y Ratio) bool { return x.Cmp(y) == 0 }

// P3.1: New and what it is in lowest terms.
func TestNew(t *testing.T) {
	for _, c := range []struct {
		n, d int64
		want string
	}{{6, -4, "-3/2"}, {-6, -4, "3/2"}, {0, -5, "0"}, {7, 1, "7"}, {8, -2, "-4"}, {math.MinInt64, math.MinInt64, "1"}, {1, math.MinInt64, "-1/9223372036854775808"}} {
		x, e := New(whole(c.n), whole(c.d))
		n, d, two := strings.Cut(c.want, "/")
		if !two {
			d = "1"
		}
		if e != api.OK || text(x) != c.want || decimal(x.Numerator()) != n || decimal(x.Denominator()) != d || x.Whole() == two {
			t.Errorf("%d/%d = %s, %v", c.n, c.d, text(x), e)
		}
	}
	if x, e := New(whole(1), integer.Int{}); e != api.ErrZero || x.Sign() != 0 {
		t.Errorf("1/0 = %s, %v", text(x), e)
	}
	var zero Ratio
	if !zero.Whole() || zero.Sign() != 0 || decimal(zero.Denominator()) != "1" || !same(zero, frac(0, 9)) || !same(zero, Of(whole(0))) {
		t.Error("the zero value is not 0")
	}
	if x := Of(whole(-7)); text(x) != "-7" || !x.Whole() || x.Sign() != -1 {
		t.Errorf("Of -7 = %s", text(x))
	}
}

// P3.1: arithmetic is that of the library.
func TestArithmetic(t *testing.T) {
	eachSome(t, func(x, y, z Ratio) {
		a, b := toBig(x), toBig(y)
		right := func(name string, got Ratio, want *big.Rat) {
			if text(got) != want.RatString() {
				t.Errorf("%s of %s and %s = %s; want %s", name, text(x), text(y), text(got), want.RatString())
			}
		}
		right("Neg", x.Neg(), new(big.Rat).Neg(a))
		right("Abs", x.Abs(), new(big.Rat).Abs(a))
		right("Add", x.Add(y), new(big.Rat).Add(a, b))
		right("Sub", x.Sub(y), new(big.Rat).Sub(a, b))
		right("Mul", x.Mul(y), new(big.Rat).Mul(a, b))
		if x.Cmp(y) != a.Cmp(b) || x.Sign() != a.Sign() || x.Whole() != a.IsInt() {
			t.Errorf("Cmp, Sign or Whole of %s and %s", text(x), text(y))
		}
		q, e := x.Div(y)
		if y.Sign() == 0 {
			if e != api.ErrZero || q.Sign() != 0 {
				t.Errorf("%s by 0: %s, %v", text(x), text(q), e)
			}
			return
		}
		if e != api.OK {
			t.Errorf("Div: %v", e)
		}
		right("Div", q, new(big.Rat).Quo(a, b))
	})
}

// P3.2.
func TestField(t *testing.T) {
	eachSome(t, func(x, y, z Ratio) {
		quotient, _ := x.Mul(y).Div(y)
		for name, holds := range map[string]bool{
			"Add is commutative":   same(x.Add(y), y.Add(x)),
			"Mul is commutative":   same(x.Mul(y), y.Mul(x)),
			"Add is associative":   same(x.Add(y).Add(z), x.Add(y.Add(z))),
			"Mul is associative":   same(x.Mul(y).Mul(z), x.Mul(y.Mul(z))),
			"Mul is distributive":  same(x.Mul(y.Add(z)), x.Mul(y).Add(x.Mul(z))),
			"Sub undoes Add":       same(x.Add(y).Sub(y), x),
			"Div undoes Mul":       y.Sign() == 0 || same(quotient, x),
			"Cmp agrees with sums": x.Cmp(y) == x.Add(z).Cmp(y.Add(z)),
			"Cmp agrees with Mul":  z.Sign() <= 0 || x.Cmp(y) == x.Mul(z).Cmp(y.Mul(z)),
		} {
			if !holds {
				t.Errorf("%s: not for %s, %s, %s", name, text(x), text(y), text(z))
			}
		}
		other, _ := New(x.Numerator().Mul(whole(-6)), x.Denominator().Mul(whole(-6)))
		if !same(other, x) || text(other) != text(x) || other.Numerator().Cmp(x.Numerator()) != 0 || other.Denominator().Cmp(x.Denominator()) != 0 {
			t.Errorf("%s is not equal to %s", text(other), text(x))
		}
	})
}

// P3.1 and P3.3.
func TestQuotients(t *testing.T) {
	for _, c := range []struct {
		x, y Ratio
		way  int
		q, r string
	}{
		{frac(-7, 2), frac(2, 1), Floor, "-2", "1/2"}, {frac(-7, 2), frac(2, 1), Ceiling, "-1", "-3/2"}, {frac(-7, 2), frac(2, 1), Truncate, "-1", "-3/2"}, {frac(-7, 2), frac(2, 1), Round, "-2", "1/2"},
		{frac(5, 1), frac(2, 1), Round, "2", "1"}, {frac(7, 1), frac(2, 1), Round, "4", "-1"}, {frac(-5, 1), frac(2, 1), Round, "-2", "-1"}, {frac(-7, 1), frac(2, 1), Round, "-4", "1"}, {frac(7, 1), frac(-2, 1), Round, "-4", "-1"}, {frac(1, 2), frac(-1, 1), Round, "0", "1/2"},
		{frac(7, 1), frac(-2, 1), Floor, "-4", "-1"}, {frac(7, 1), frac(-2, 1), Ceiling, "-3", "1"}, {frac(6, 1), frac(-2, 1), Ceiling, "-3", "0"}, {frac(1, 3), frac(1, 6), Floor, "2", "0"}, {frac(0, 1), frac(5, 7), Ceiling, "0", "0"},
	} {
		if q, r, e := c.x.Quotient(c.way, c.y); e != api.OK || decimal(q) != c.q || text(r) != c.r {
			t.Errorf("%s by %s, way %d: %s, %s, %v", text(c.x), text(c.y), c.way, decimal(q), text(r), e)
		}
	}
	for _, way := range []int{-1, 4, math.MinInt, math.MaxInt} {
		for _, y := range []Ratio{{}, frac(1, 2)} {
			if q, r, e := frac(1, 2).Quotient(way, y); e != api.ErrArg || q.Sign() != 0 || r.Sign() != 0 {
				t.Errorf("way %d: %v", way, e)
			}
		}
	}
	for way := range 4 {
		if q, r, e := frac(1, 2).Quotient(way, Ratio{}); e != api.ErrZero || q.Sign() != 0 || r.Sign() != 0 {
			t.Errorf("by 0, way %d: %v", way, e)
		}
	}
}

func TestQuotientLaws(t *testing.T) {
	eachSome(t, func(x, y, z Ratio) {
		if y.Sign() == 0 {
			return
		}
		half := y.Abs().Mul(frac(1, 2))
		for way := range 4 {
			q, r, e := x.Quotient(way, y)
			if e != api.OK || !same(y.Mul(Of(q)).Add(r), x) || r.Abs().Cmp(y.Abs()) >= 0 {
				t.Errorf("%s by %s, way %d: %s, %s, %v", text(x), text(y), way, decimal(q), text(r), e)
			}
			var holds bool
			switch way {
			case Floor:
				holds = r.Sign() == 0 || r.Sign() == y.Sign()
			case Ceiling:
				opposite, _, _ := x.Neg().Quotient(Floor, y)
				holds = (r.Sign() == 0 || r.Sign() == -y.Sign()) && opposite.Neg().Cmp(q) == 0
			case Truncate:
				holds = r.Sign() == 0 || r.Sign() == x.Sign()
			case Round:
				c := r.Abs().Cmp(half)
				holds = c < 0 || c == 0 && !q.Odd()
			}
			if !holds {
				t.Errorf("the remainder of %s by %s, way %d: %s", text(x), text(y), way, text(r))
			}
		}
	})
}

// P3.1 and P3.4.
func TestPowers(t *testing.T) {
	eachSome(t, func(x, y, z Ratio) {
		if x.Sign() == 0 || len(text(x)) > 20 {
			return
		}
		for n := -3; n < 4; n++ {
			for m := -3; m < 4; m++ {
				a, e := x.Power(n)
				b, f := x.Power(m)
				both, g := x.Power(n + m)
				if e != api.OK || f != api.OK || g != api.OK || !same(a.Mul(b), both) {
					t.Errorf("powers of %s: %d, %d", text(x), n, m)
				}
			}
		}
		if root, e := x.Mul(x).Root(); e != api.OK || !same(root, x.Abs()) {
			t.Errorf("Root of the square of %s = %s, %v", text(x), text(root), e)
		}
	})
	power := func(n int) integer.Int {
		x, _ := whole(2).Power(n)
		return x
	}
	tiny, _ := New(whole(-1), power(65535).Mul(whole(2)))
	for _, c := range []struct {
		x    Ratio
		n    int
		want string
		e    api.Errno
	}{
		{frac(2, 3), -3, "27/8", api.OK}, {frac(-2, 3), -3, "-27/8", api.OK}, {frac(2, 3), 0, "1", api.OK}, {Ratio{}, 0, "1", api.OK}, {Ratio{}, 5, "0", api.OK}, {Ratio{}, -1, "0", api.ErrZero}, {Ratio{}, math.MinInt, "0", api.ErrZero},
		{frac(-1, 1), math.MinInt, "1", api.OK}, {frac(-1, 1), math.MinInt + 1, "-1", api.OK}, {frac(1, 1), math.MinInt, "1", api.OK}, {frac(-1, 1), math.MaxInt, "-1", api.OK},
		{frac(1, 2), 65536, "0", api.ErrLarge}, {frac(2, 1), 65536, "0", api.ErrLarge}, {frac(2, 1), -65536, "0", api.ErrLarge}, {frac(1, 2), -65536, "0", api.ErrLarge}, {frac(3, 2), math.MinInt, "0", api.ErrLarge}, {frac(3, 2), math.MaxInt, "0", api.ErrLarge},
		{tiny, 1, "0", api.ErrLarge}, {tiny, -1, "-" + decimal(power(65535).Mul(whole(2))), api.OK},
	} {
		if x, e := c.x.Power(c.n); e != c.e || text(x) != c.want {
			t.Errorf("%.40s to the power of %d = %.40s, %v", text(c.x), c.n, text(x), e)
		}
	}
	if x, e := frac(1, 2).Power(65535); e != api.OK || x.Denominator().Length() != api.MaxBits {
		t.Errorf("a great power: %v", e)
	}
}

// P3.1: roots.
func TestRoots(t *testing.T) {
	for _, c := range []struct {
		x    Ratio
		want string
		e    api.Errno
	}{
		{frac(9, 4), "3/2", api.OK}, {Ratio{}, "0", api.OK}, {frac(1, 1), "1", api.OK}, {frac(2, 1), "0", api.ErrNone}, {frac(1, 2), "0", api.ErrNone}, {frac(9, 2), "0", api.ErrNone}, {frac(2, 9), "0", api.ErrNone}, {frac(8, 2), "2", api.OK},
		{frac(-9, 4), "0", api.ErrArg}, {frac(-2, 1), "0", api.ErrArg},
	} {
		if x, e := c.x.Root(); e != c.e || text(x) != c.want {
			t.Errorf("Root of %s = %s, %v", text(c.x), text(x), e)
		}
	}
}

func ints(l ...int64) []integer.Int {
	var all []integer.Int
	for _, n := range l {
		all = append(all, whole(n))
	}
	return all
}

func equalInts(a, b []integer.Int) bool {
	return slices.EqualFunc(a, b, func(x, y integer.Int) bool { return x.Cmp(y) == 0 })
}

// P3.1 and P3.5.
func TestExpansions(t *testing.T) {
	for _, c := range []struct {
		x    Ratio
		want []integer.Int
	}{{frac(43, 30), ints(1, 2, 3, 4)}, {frac(-3, 2), ints(-2, 2)}, {Ratio{}, ints(0)}, {frac(5, 1), ints(5)}, {frac(-5, 1), ints(-5)}, {frac(1, 3), ints(0, 3)}, {frac(-1, 3), ints(-1, 1, 2)}} {
		if l := c.x.Expansion(); !equalInts(l, c.want) {
			t.Errorf("Expansion of %s has %d elements", text(c.x), len(l))
		}
	}
	eachSome(t, func(x, y, z Ratio) {
		l := x.Expansion()
		if back, e := Contract(l); e != api.OK || !same(back, x) {
			t.Errorf("Contract of Expansion of %s = %s, %v", text(x), text(back), e)
		}
		for i, n := range l {
			if i > 0 && n.Sign() <= 0 || i > 0 && i == len(l)-1 && n.Cmp(whole(1)) <= 0 {
				t.Errorf("element %d of the Expansion of %s is %s", i, text(x), decimal(n))
			}
		}
	})
	for _, c := range []struct {
		l    []integer.Int
		want string
		e    api.Errno
	}{
		{nil, "0", api.ErrNone}, {ints(), "0", api.ErrNone}, {ints(0), "0", api.OK}, {ints(1, 0), "0", api.ErrZero}, {ints(1, 0, 2), "3", api.OK}, {ints(3, 0, 0), "0", api.ErrZero}, {ints(1, 1, -1), "0", api.ErrZero}, {ints(2, -2), "3/2", api.OK}, {ints(2, -2, -3), "11/7", api.OK}, {ints(0, -1, 5), "-5/4", api.OK}, {ints(5, 2, 0, 1), "16/3", api.OK},
	} {
		if x, e := Contract(c.l); e != c.e || text(x) != c.want {
			t.Errorf("Contract = %s, %v; want %s, %v", text(x), e, c.want, c.e)
		}
	}
}

// simpler reports whether x is simpler than y, as the chapter defines it.
func simpler(x, y Ratio) bool {
	if c := x.Denominator().Cmp(y.Denominator()); c != 0 {
		return c < 0
	}
	return x.Numerator().Abs().Cmp(y.Numerator().Abs()) < 0
}

// P3.1 and P3.6.
func TestSimplest(t *testing.T) {
	for _, c := range []struct {
		low, high Ratio
		want      string
	}{
		{frac(31, 100), frac(32, 100), "5/16"}, {frac(-32, 100), frac(-31, 100), "-5/16"}, {frac(-1, 2), frac(1, 3), "0"}, {frac(1, 2), frac(5, 2), "1"}, {frac(-5, 2), frac(-1, 2), "-1"}, {frac(2, 3), frac(2, 3), "2/3"}, {frac(3, 1), frac(7, 2), "3"}, {frac(5, 2), frac(3, 1), "3"}, {Ratio{}, frac(5, 1), "0"}, {frac(-5, 1), Ratio{}, "0"}, {frac(1, 3), frac(1, 2), "1/2"}, {frac(7, 3), frac(7, 3), "7/3"}, {frac(-7, 3), frac(-9, 4), "-7/3"},
	} {
		if x, e := Simplest(c.low, c.high); e != api.OK || text(x) != c.want {
			t.Errorf("Simplest from %s to %s = %s, %v", text(c.low), text(c.high), text(x), e)
		}
	}
	if x, e := Simplest(frac(1, 2), frac(1, 3)); e != api.ErrOrder || x.Sign() != 0 {
		t.Errorf("Simplest from 1/2 to 1/3 = %s, %v", text(x), e)
	}
	eachSome(t, func(x, y, z Ratio) {
		l := []Ratio{x, y, z}
		slices.SortFunc(l, Ratio.Cmp)
		s, e := Simplest(l[0], l[1])
		if e != api.OK || s.Cmp(l[0]) < 0 || s.Cmp(l[1]) > 0 {
			t.Errorf("Simplest from %s to %s = %s, %v", text(l[0]), text(l[1]), text(s), e)
		}
		middle := l[0].Add(l[1]).Mul(frac(1, 2))
		for _, other := range []Ratio{l[0], l[1], middle} {
			if simpler(other, s) {
				t.Errorf("%s is simpler than %s, from %s to %s", text(other), text(s), text(l[0]), text(l[1]))
			}
		}
		if wide, _ := Simplest(l[0], l[2]); simpler(s, wide) {
			t.Errorf("Simplest of a wider range is %s, of a narrower one %s", text(wide), text(s))
		}
	})
	// all fractions with small denominators
	for d := int64(1); d < 14; d++ {
		for n := -2 * d; n < 2*d; n++ {
			low, high := frac(n, d), frac(n, d).Add(frac(1, 29))
			s, _ := Simplest(low, high)
			for q := int64(1); q < 30; q++ {
				for p := -3 * q; p < 3*q; p++ {
					if o := frac(p, q); o.Cmp(low) >= 0 && o.Cmp(high) <= 0 && simpler(o, s) {
						t.Fatalf("from %s on %s is simpler than %s", text(low), text(o), text(s))
					}
				}
			}
		}
	}
}

// P3.1 and P3.7.
func TestTexts(t *testing.T) {
	r := rand.New(rand.NewSource(2))
	eachSome(t, func(x, y, z Ratio) {
		radix := 2 + r.Intn(35)
		s, e := x.Text(radix)
		if e != api.OK {
			t.Errorf("Text in %d: %v", radix, e)
		}
		if back, e := Parse(s, radix); e != api.OK || !same(back, x) {
			t.Errorf("Parse(%q, %d) = %s, %v", s, radix, text(back), e)
		}
	})
	for _, c := range []struct {
		s     string
		radix int
		want  string
		e     api.Errno
	}{
		{"+06/4", 10, "3/2", api.OK}, {"-ff/010", 16, "-255/16", api.OK}, {"4/2", 10, "2", api.OK}, {"0/7", 10, "0", api.OK}, {"-0/7", 10, "0", api.OK}, {"-12", 10, "-12", api.OK},
		{"1/0", 10, "0", api.ErrZero}, {"0/0", 10, "0", api.ErrZero}, {"x/0", 10, "0", api.ErrForm}, {"1/-2", 10, "0", api.ErrForm}, {"1/+2", 10, "0", api.ErrForm}, {"1/2/3", 10, "0", api.ErrForm}, {"1//3", 10, "0", api.ErrForm}, {"/2", 10, "0", api.ErrForm}, {"1/", 10, "0", api.ErrForm}, {"/", 10, "0", api.ErrForm}, {"", 10, "0", api.ErrForm}, {"1 /2", 10, "0", api.ErrForm}, {"1.5", 10, "0", api.ErrForm}, {"12/2", 2, "0", api.ErrForm},
		{"1/2", 1, "0", api.ErrArg}, {"1/0", 37, "0", api.ErrArg}, {"?", -5, "0", api.ErrArg},
		{strings.Repeat("1", 10000) + "/" + strings.Repeat("1", 10000), 10, "0", api.ErrLarge}, {strings.Repeat("1", 10000) + "/" + strings.Repeat("1", 9999) + "?", 10, "0", api.ErrLarge}, {strings.Repeat("1", 20001), 10, "0", api.ErrLarge}, {"?" + strings.Repeat("1", 20000) + "/1", 10, "0", api.ErrLarge}, {strings.Repeat("1", 20001) + "/0", 37, "0", api.ErrArg},
		{strings.Repeat("1", 10000) + "/" + strings.Repeat("0", 9998) + "1", 10, strings.Repeat("1", 10000), api.OK},
	} {
		if x, e := Parse(c.s, c.radix); e != c.e || text(x) != c.want {
			t.Errorf("Parse(%.30q, %d) = %.30s, %v; want %.30s, %v", c.s, c.radix, text(x), e, c.want, c.e)
		}
	}
	for _, radix := range []int{1, 37, math.MinInt} {
		for _, x := range []Ratio{{}, frac(1, 2)} {
			if s, e := x.Text(radix); s != "" || e != api.ErrArg {
				t.Errorf("Text in %d = %q, %v", radix, s, e)
			}
		}
	}
	if s, e := frac(-255, 16).Text(16); s != "-FF/10" || e != api.OK {
		t.Errorf("Text = %q, %v", s, e)
	}
}
