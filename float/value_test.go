package float

import (
	"math"
	"math/big"
	"math/bits"
	"math/rand"
	"slices"
	"testing"

	"commonform/api"
	"commonform/integer"
	"commonform/rational"
)

// P4.1: each function returns the error of a float, and with it nothing else.
func TestWrongFloats(t *testing.T) {
	for _, w := range wrongFloats() {
		f, x := w.f, w.x
		check := func(name string, e api.Errno, isZero bool) {
			if e != api.ErrArg || !isZero {
				t.Errorf("%s of %d, %x: %v", name, f, x, e)
			}
		}
		value, e := Value(f, x)
		check("Value", e, value.Sign() == 0)
		y, e := Convert(f, x, Double)
		check("Convert", e, y == 0)
		m, n, sign, e := Decode(f, x)
		check("Decode", e, m.Sign() == 0 && n == 0 && sign == 0)
		n, e = Precision(f, x)
		check("Precision", e, n == 0)
		y, e = Scale(f, x, 1)
		check("Scale", e, y == 0)
		for _, up := range []bool{false, true} {
			y, e = Next(f, x, up)
			check("Next", e, y == 0)
		}
		y, e = Neg(f, x)
		check("Neg", e, y == 0)
		y, e = Root(f, x)
		check("Root", e, y == 0)
		for name, operate := range map[string]func(Format, uint64, uint64) (uint64, api.Errno){"Add": Add, "Sub": Sub, "Mul": Mul, "Div": Div} {
			y, e = operate(f, x, 0)
			check(name, e, y == 0)
			y, e = operate(f, 0, x)
			check(name, e, y == 0)
		}
		n, e = Compare(f, x, Double, 0)
		check("Compare", e, n == 0)
		n, e = Compare(Single, 1, f, x)
		check("Compare", e, n == 0)
		s, n, e := Shortest(f, x)
		check("Shortest", e, s == "" && n == 0)
		s, e = Print(f, x, Single)
		check("Print", e, s == "")
	}
	for _, f := range []Format{-1, 2, math.MinInt, math.MaxInt} {
		if _, e := Nearest(f, frac(1, 2)); e != api.ErrArg {
			t.Errorf("Nearest of the format %d: %v", f, e)
		}
		if _, e := Convert(Single, 0, f); e != api.ErrArg {
			t.Errorf("Convert to the format %d: %v", f, e)
		}
		if _, e := Read(f, "?"); e != api.ErrArg {
			t.Errorf("Read of the format %d: %v", f, e)
		}
		if _, e := Print(Single, 0, f); e != api.ErrArg {
			t.Errorf("Print with the format %d as usual: %v", f, e)
		}
	}
}

// P4.1: Value, Decode and Precision.
func TestParts(t *testing.T) {
	eachSome(func(f Format, x, _ uint64) {
		v, e := Value(f, x)
		if want := exact(number(f, x)).RatString(); e != api.OK || text(v) != want {
			t.Errorf("Value of %x = %s, %v; want %s", x, text(v), e, want)
		}
		m, n, sign, e := Decode(f, x)
		digits, _ := m.Int64()
		if e != api.OK || math.Ldexp(float64(digits), n)*float64(sign) != number(f, x) || math.Signbit(number(f, x)) != (sign < 0) {
			t.Errorf("Decode of %x = %d, %d, %d, %v", x, digits, n, sign, e)
		}
		least := []int{-149, -1074}[f]
		if width := []int{24, 53}[f]; m.Length() > width || n < least || m.Length() < width && n != least {
			t.Errorf("Decode of %x = %d, %d", x, digits, n)
		}
		if p, e := Precision(f, x); e != api.OK || p != bits.Len64(uint64(digits)) {
			t.Errorf("Precision of %x = %d, %v", x, p, e)
		}
	})
	for _, c := range []struct {
		f        Format
		x        uint64
		m        int64
		e, sign  int
		accurate int
	}{
		{Single, 0x3f800000, 8388608, -23, 1, 24}, {Single, 0, 0, -149, 1, 0}, {Single, minusSingle, 0, -149, -1, 0}, {Single, 5, 5, -149, 1, 3}, {Single, 0x00800000, 8388608, -149, 1, 24}, {Single, 0xff7fffff, 16777215, 104, -1, 24},
		{Double, minusDouble, 0, -1074, -1, 0}, {Double, greatestDouble, 1<<53 - 1, 971, 1, 53}, {Double, 1, 1, -1074, 1, 1},
	} {
		m, e, sign, err := Decode(c.f, c.x)
		p, _ := Precision(c.f, c.x)
		if err != api.OK || m.Cmp(integer.New(c.m)) != 0 || e != c.e || sign != c.sign || p != c.accurate {
			t.Errorf("Decode of %x: %d, %d, %d, %v", c.x, e, sign, p, err)
		}
	}
}

// P4.1: Nearest of fractions that are halfway, or almost, between floats.
func TestNearest(t *testing.T) {
	two := func(n int) rational.Ratio {
		x, _ := rational.Of(integer.New(2)).Power(n)
		return x
	}
	for _, c := range []struct {
		f Format
		x rational.Ratio
		y uint64
		e api.Errno
	}{
		{Single, frac(1, 3), 0x3eaaaaab, api.OK}, {Double, frac(1, 3), 0x3fd5555555555555, api.OK}, {Single, rational.Ratio{}, 0, api.OK},
		{Single, two(128), 0, api.ErrOver}, {Single, two(128).Sub(two(103)), 0, api.ErrOver}, {Single, two(128).Sub(two(103)).Sub(frac(1, 1)), greatestSingle, api.OK}, {Single, two(128).Sub(two(103)).Neg(), 0, api.ErrOver}, {Single, two(103).Sub(two(128)).Add(frac(1, 9)), 0xff7fffff, api.OK},
		{Double, two(1024), 0, api.ErrOver}, {Double, two(1024).Sub(two(970)), 0, api.ErrOver}, {Double, two(1024).Sub(two(970)).Sub(two(-1000)), greatestDouble, api.OK},
		{Single, two(-150), 0, api.OK}, {Single, two(-150).Neg(), minusSingle, api.OK}, {Single, two(-150).Add(two(-2000)), 1, api.OK}, {Single, two(-149), 1, api.OK}, {Single, two(-150).Mul(frac(3, 1)), 2, api.OK}, {Single, two(-150).Mul(frac(5, 1)), 2, api.OK}, {Single, two(-151), 0, api.OK},
		{Double, two(-1075), 0, api.OK}, {Double, two(-1075).Neg(), minusDouble, api.OK}, {Double, two(-1075).Mul(frac(3, 2)), 1, api.OK},
		{Single, two(60000), 0, api.ErrOver}, {Single, two(-60000).Neg(), minusSingle, api.OK}, {Double, two(65000).Mul(two(65000)).Neg(), 0, api.ErrOver}, {Double, two(-65000).Mul(two(-65000)), 0, api.OK},
		{Single, frac(16777217, 1), 0x4b800000, api.OK}, {Single, frac(16777219, 1), 0x4b800002, api.OK}, {Single, frac(33554431, 1), 0x4c000000, api.OK}, {Single, frac(33554431, 2), 0x4b800000, api.OK},
		{Single, two(-126).Sub(two(-150)), 0x00800000, api.OK}, {Single, two(-126).Sub(two(-151)), 0x00800000, api.OK}, {Single, two(-126).Sub(two(-149)), 0x007fffff, api.OK},
	} {
		if y, e := Nearest(c.f, c.x); y != c.y || e != c.e {
			t.Errorf("Nearest of %.40s = %x, %v; want %x, %v", text(c.x), y, e, c.y, c.e)
		}
	}
	r := rand.New(rand.NewSource(2))
	for range 3000 {
		limit := new(big.Int).Lsh(big.NewInt(1), uint(1+r.Intn(1100)))
		n, d := new(big.Int).Rand(r, limit), new(big.Int).Rand(r, limit)
		z := new(big.Rat).SetFrac(n, d.Add(d, big.NewInt(1)))
		if z.Sign() == 0 {
			continue
		}
		x := ratio(t, z.RatString())
		single, _ := z.Float32()
		double, _ := z.Float64()
		for f, want := range []float64{float64(single), double} {
			y, e := Nearest(Format(f), x)
			if math.IsInf(want, 0) != (e == api.ErrOver) || e == api.OK && y != bitsOf(Format(f), want) {
				t.Errorf("Nearest of %s = %x, %v", z, y, e)
			}
		}
	}
}

// P4.2.
func TestValueLaws(t *testing.T) {
	eachSome(func(f Format, x, y uint64) {
		v, _ := Value(f, x)
		if back, e := Nearest(f, v); e != api.OK || back != positive(f, x) {
			t.Errorf("Nearest of Value of %x = %x, %v", x, back, e)
		}
		wide, e := Convert(f, x, Double)
		if back, d := Convert(Double, wide, f); e != api.OK || d != api.OK || back != x {
			t.Errorf("Convert of %x to Double and back = %x", x, back)
		}
		if number(Double, wide) != number(f, x) {
			t.Errorf("Convert of %x to Double = %x", x, wide)
		}
		// a fraction between two neighbours
		up, e := Next(f, x, true)
		if e != api.OK {
			return
		}
		w, _ := Value(f, up)
		last := positive(f, x)
		for i := range int64(9) {
			between := v.Add(w.Sub(v).Mul(frac(i, 8)))
			n, e := Nearest(f, between)
			if e != api.OK || positive(f, n) != positive(f, x) && positive(f, n) != positive(f, up) {
				t.Errorf("Nearest of %d eighths between %x and %x = %x, %v", i, x, up, n, e)
			}
			if number(f, n) < number(f, last) {
				t.Errorf("Nearest falls between %x and %x", x, up)
			}
			last = n
		}
		if number(f, last) != number(f, up) {
			t.Errorf("Nearest of the neighbour of %x = %x", x, last)
		}
	})
	r := rand.New(rand.NewSource(3))
	for range 3000 {
		x := some(r, Double)
		want := float32(number(Double, x))
		y, e := Convert(Double, x, Single)
		if math.IsInf(float64(want), 0) {
			if e != api.ErrOver || y != 0 {
				t.Errorf("Convert of %x = %x, %v", x, y, e)
			}
		} else if e != api.OK || y != uint64(math.Float32bits(want)) {
			t.Errorf("Convert of %x = %x, %v; want %x", x, y, e, math.Float32bits(want))
		}
	}
}

// P4.1: Scale, for any n.
func TestScale(t *testing.T) {
	r := rand.New(rand.NewSource(4))
	eachSome(func(f Format, x, _ uint64) {
		n := r.Intn(600) - 300
		want := bitsOf(f, math.Ldexp(number(f, x), n)) // exact as a double for a single x; doubles are rounded by Ldexp itself
		if f == Double && math.Abs(math.Ldexp(number(f, x), n)) < 1e-300 {
			return
		}
		y, e := Scale(f, x, n)
		if !finite(f, want) {
			if e != api.ErrOver || y != 0 {
				t.Errorf("Scale of %x by %d = %x, %v", x, n, y, e)
			}
		} else if e != api.OK || y != want {
			t.Errorf("Scale of %x by %d = %x, %v; want %x", x, n, y, e, want)
		}
	})
	for _, c := range []struct {
		x uint64
		n int
		y uint64
		e api.Errno
	}{
		{0, math.MaxInt, 0, api.OK}, {minusSingle, math.MaxInt, minusSingle, api.OK}, {minusSingle, math.MinInt, minusSingle, api.OK}, {1, math.MaxInt, 0, api.ErrOver}, {greatestSingle, math.MinInt, 0, api.OK}, {0xff7fffff, math.MinInt, minusSingle, api.OK},
		{1, 276, 0x7f000000, api.OK}, {1, 277, 0, api.ErrOver}, {3, -1, 2, api.OK}, {1, -1, 0, api.OK}, {5, -1, 2, api.OK}, {0x3f800000, -149, 1, api.OK}, {0x3f800001, -150, 1, api.OK}, {0x3f800000, -150, 0, api.OK},
	} {
		if y, e := Scale(Single, c.x, c.n); y != c.y || e != c.e {
			t.Errorf("Scale of %x by %d = %x, %v; want %x, %v", c.x, c.n, y, e, c.y, c.e)
		}
	}
}

// P4.1 and P4.3.
func TestNext(t *testing.T) {
	eachSome(func(f Format, x, _ uint64) {
		for _, up := range []bool{false, true} {
			y, e := Next(f, x, up)
			want := math.Nextafter(number(f, x), math.Inf(-1))
			if f == Single {
				want = float64(math.Nextafter32(float32(number(f, x)), float32(math.Inf(-1))))
			}
			if up {
				want = math.Nextafter(number(f, x), math.Inf(1))
				if f == Single {
					want = float64(math.Nextafter32(float32(number(f, x)), float32(math.Inf(1))))
				}
			}
			if math.IsInf(want, 0) {
				if e != api.ErrOver || y != 0 {
					t.Errorf("Next of %x, up %v = %x, %v", x, up, y, e)
				}
				continue
			}
			if e != api.OK || number(f, y) != want || y == signBit(f) {
				t.Errorf("Next of %x, up %v = %x, %v", x, up, y, e)
			}
			if back, e := Next(f, y, !up); e != api.OK || back != positive(f, x) {
				t.Errorf("Next of Next of %x = %x, %v", x, back, e)
			}
		}
	})
	for _, c := range []struct {
		x  uint64
		up bool
		y  uint64
		e  api.Errno
	}{{0, true, 1, api.OK}, {0, false, minusSingle | 1, api.OK}, {minusSingle, true, 1, api.OK}, {minusSingle, false, minusSingle | 1, api.OK}, {1, false, 0, api.OK}, {minusSingle | 1, true, 0, api.OK}, {greatestSingle, true, 0, api.ErrOver}, {0xff7fffff, false, 0, api.ErrOver}, {greatestSingle, false, greatestSingle - 1, api.OK}, {0x3f7fffff, true, 0x3f800000, api.OK}} {
		if y, e := Next(Single, c.x, c.up); y != c.y || e != c.e {
			t.Errorf("Next of %x, up %v = %x, %v", c.x, c.up, y, e)
		}
	}
}

// P4.1 and P4.4: Compare.
func TestCompare(t *testing.T) {
	r := rand.New(rand.NewSource(5))
	type one struct {
		f Format
		x uint64
	}
	for range 3000 {
		l := []one{}
		for range 3 {
			f := Format(r.Intn(2))
			l = append(l, one{f, some(r, f)})
		}
		compare := func(a, b one) int {
			c, e := Compare(a.f, a.x, b.f, b.x)
			want := 0
			switch x, y := number(a.f, a.x), number(b.f, b.x); {
			case x < y:
				want = -1
			case x > y:
				want = 1
			}
			if e != api.OK || c != want {
				t.Errorf("Compare of %x and %x = %d, %v", a.x, b.x, c, e)
			}
			return c
		}
		slices.SortFunc(l, compare)
		if compare(l[0], l[2]) > 0 {
			t.Errorf("Compare is not transitive for %v", l)
		}
	}
	if c, e := Compare(Single, 0, Double, minusDouble); c != 0 || e != api.OK {
		t.Errorf("0 and -0: %d, %v", c, e)
	}
	if c, e := Compare(Single, 0x3dcccccd, Double, 0x3fb999999999999a); c != 1 || e != api.OK {
		t.Errorf("0.1 in both formats: %d, %v", c, e)
	}
}
