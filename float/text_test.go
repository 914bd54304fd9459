package float

import (
	"math"
	"math/big"
	"math/rand"
	"strconv"
	"strings"
	"testing"

	"commonform/api"
	"commonform/integer"
	"commonform/rational"
)

// P4.1: Shortest is what the library finds.
func TestShortest(t *testing.T) {
	eachSome(func(f Format, x, _ uint64) {
		s, p, e := Shortest(f, x)
		want, point := libraryDigits(f, x)
		if e != api.OK || s != want || p != point {
			t.Errorf("Shortest of %x = %q, %d, %v; want %q, %d", x, s, p, e, want, point)
		}
	})
	for _, c := range []struct {
		f Format
		x uint64
		s string
		p int
	}{
		{Single, 0, "0", 0}, {Single, minusSingle, "0", 0}, {Single, 0x3dcccccd, "1", 0}, {Single, 1, "1", -44}, {Single, 2, "3", -44}, {Single, 7, "1", -43}, {Single, greatestSingle, "34028235", 39}, {Double, 1, "5", -323}, {Double, greatestDouble, "17976931348623157", 309},
		{Single, 0x4a800001, "41943045", 7}, // 4194304.5
		{Single, 0x4a000001, "20971522", 7}, // 2097152.25, half-way: the even digit
		{Single, 0x4a000003, "20971528", 7}, // 2097152.75
		{Double, 0x4350000000000001, "18014398509481988", 17}, {Double, 0x4340000000000000, "9007199254740992", 16}, {Double, 0x44b52d02c7e14af6, "1", 24}, {Double, 0x44b52d02c7e14af7, "10000000000000001", 24}, {Double, 0x0010000000000000, "22250738585072014", -307},
	} {
		if s, p, e := Shortest(c.f, c.x); s != c.s || p != c.p || e != api.OK {
			t.Errorf("Shortest of %x = %q, %d, %v; want %q, %d", c.x, s, p, e, c.s, c.p)
		}
	}
}

// libraryDigits returns the shortest digits, and the place of the point, as strconv has them.
func libraryDigits(f Format, x uint64) (string, int) {
	n := math.Abs(number(f, x))
	if n == 0 {
		return "0", 0
	}
	text := strconv.FormatFloat(n, 'e', -1, []int{32, 64}[f])
	digits, exponent, _ := strings.Cut(text, "e")
	point, _ := strconv.Atoi(exponent)
	return strings.TrimRight(strings.Replace(digits, ".", "", 1), "0"), point + 1
}

// P4.5, and what Shortest says of fewer and of other digits.
func TestShortestLaws(t *testing.T) {
	r := rand.New(rand.NewSource(7))
	for range 1500 {
		f := Format(r.Intn(2))
		x := some(r, f) &^ signBit(f)
		s, p, _ := Shortest(f, x)
		if x == 0 {
			continue
		}
		if s[0] == '0' || s[len(s)-1] == '0' {
			t.Errorf("Shortest of %x = %q", x, s)
		}
		read := func(digits string, point int) uint64 {
			y, _ := Read(f, "."+digits+"e"+strconv.Itoa(point))
			return y
		}
		if read(s, p) != x {
			t.Errorf("Shortest of %x = %q, %d is read as %x", x, s, p, read(s, p))
		}
		n := len(s) - 1
		if n > 0 { // the nearest ones with fewer digits
			short, _ := strconv.ParseInt(s[:n], 10, 64)
			for d := range int64(4) {
				if digits := strconv.FormatInt(short-1+d, 10); read(digits, p+len(digits)-n) == x {
					t.Errorf("%q is read as %x, whose Shortest is %q", digits, x, s)
				}
			}
		}
		v, _ := Value(f, x)
		distance := func(digits int64) *big.Rat {
			z := new(big.Rat).SetInt64(digits)
			ten := new(big.Rat).SetInt(new(big.Int).Exp(big.NewInt(10), big.NewInt(int64(max(p-n-1, n+1-p))), nil))
			if p > n {
				z.Mul(z, ten)
			} else {
				z.Quo(z, ten)
			}
			value, _ := new(big.Rat).SetString(text(v))
			return z.Sub(z, value).Abs(z)
		}
		own, _ := strconv.ParseInt(s, 10, 64)
		for _, other := range []int64{own - 1, own + 1} {
			digits := strconv.FormatInt(other, 10)
			if c := distance(other).Cmp(distance(own)); read(digits, p+len(digits)-len(s)) == x && (c < 0 || c == 0 && own%2 != 0) {
				t.Errorf("%d is as good for %x as %d", other, x, own)
			}
		}
	}
}

// P4.1 and P4.5: Print and Read.
func TestPrint(t *testing.T) {
	for _, c := range []struct {
		f     Format
		x     uint64
		usual Format
		want  string
	}{
		{Single, 0x3dcccccd, Single, "0.1"}, {Single, 0x3dcccccd, Double, "0.1f0"}, {Single, 0x4b189680, Single, "1.0e7"}, {Single, 0x4b189680, Double, "1.0f7"}, {Single, 0x4b18967f, Single, "9999999.0"}, {Single, 1, Single, "1.0e-45"}, {Single, 0, Single, "0.0"}, {Single, minusSingle, Double, "-0.0f0"}, {Single, 0xc2f6e979, Single, "-123.456"}, {Single, 0x3a83126f, Single, "0.001"}, {Single, 0x3a83126e, Single, "9.999999e-4"}, {Single, 0x3f800000, Single, "1.0"}, {Single, 0x42c80000, Single, "100.0"}, {Single, 0x7f7fffff, Double, "3.4028235f38"}, {Single, 0xff7fffff, Single, "-3.4028235e38"},
		{Double, 0x3fb999999999999a, Double, "0.1"}, {Double, 0x3fb999999999999a, Single, "0.1d0"}, {Double, 0x416312d000000000, Double, "1.0e7"}, {Double, 0x416312d000000000, Single, "1.0d7"}, {Double, 0x416312cfffffffff, Double, "9999999.999999998"}, {Double, 0x3f50624dd2f1a9fc, Double, "0.001"}, {Double, 0x3f50624dd2f1a9fb, Double, "9.999999999999998e-4"}, {Double, minusDouble, Single, "-0.0d0"}, {Double, 1, Single, "5.0d-324"}, {Double, 0xc05edd2f1a9fbe77, Double, "-123.456"},
	} {
		if s, e := Print(c.f, c.x, c.usual); s != c.want || e != api.OK {
			t.Errorf("Print of %x = %q, %v; want %q", c.x, s, e, c.want)
		}
	}
	eachSome(func(f Format, x, _ uint64) {
		usual, _ := Print(f, x, f)
		if y, e := Read(f, usual); y != x || e != api.OK {
			t.Errorf("Read of %q = %x, %v; want %x", usual, y, e, x)
		}
		other, _ := Print(f, x, 1-f)
		letter := []string{"f", "d"}[f]
		if strings.Count(other, letter) != 1 || strings.Contains(other, "e") {
			t.Errorf("Print of %x = %q", x, other)
		}
		if y, e := Read(f, strings.Replace(other, letter, "e", 1)); y != x || e != api.OK {
			t.Errorf("Read of %q = %x, %v; want %x", other, y, e, x)
		}
		ahead, exponent, _ := strings.Cut(usual, "e")
		if exponent != "" {
			exponent = "E" + exponent
		}
		if y, e := Read(f, ahead+"000"+exponent); y != x || e != api.OK {
			t.Errorf("Read of %q with zeros = %x, %v; want %x", usual, y, e, x)
		}
	})
}

// P4.1: Read is what the library reads.
func TestRead(t *testing.T) {
	long := strings.Repeat("0", 19990)
	for _, c := range []struct {
		s string
		x uint64
		e api.Errno
	}{
		{"-.5e1", 0xc0a00000, api.OK}, {"1.", 0x3f800000, api.OK}, {"+1", 0x3f800000, api.OK}, {"1.e2", 0x42c80000, api.OK}, {"01E+02", 0x42c80000, api.OK}, {"100e-02", 0x3f800000, api.OK}, {"-0", minusSingle, api.OK}, {"+0", 0, api.OK}, {"-0.0e5", minusSingle, api.OK}, {"0e9999999999999999999999", 0, api.OK}, {"-0e-9999999999999999999999", minusSingle, api.OK},
		{"16777217", 0x4b800000, api.OK}, {"16777217.0000001", 0x4b800001, api.OK}, {"16777217." + long[:100] + "1", 0x4b800001, api.OK},
		{"1e39", 0, api.ErrOver}, {"-1e39", 0, api.ErrOver}, {"1e400", 0, api.ErrOver}, {"1e401", 0, api.ErrOver}, {"1e99999999999999999999999", 0, api.ErrOver}, {"1e-99999999999999999999999", 0, api.OK}, {"-1e-50", minusSingle, api.OK}, {"-1e-5000000", minusSingle, api.OK}, {"1e-46", 0, api.OK}, {"8e-46", 1, api.OK},
		{"340282356779733661637539395458142568447", greatestSingle, api.OK}, {"340282356779733661637539395458142568448", 0, api.ErrOver},
		{"1" + long + "e-19990", 0x3f800000, api.OK}, {"." + long + "1e19991", 0x3f800000, api.OK}, {"1" + long, 0, api.ErrOver}, {"." + long + "1", 0, api.OK}, {"-." + long + "1", minusSingle, api.OK}, {long + "1", 0x3f800000, api.OK}, {"1." + long, 0x3f800000, api.OK},
		{long + "12345678901", 0, api.ErrLarge}, {long + "????????????", 0, api.ErrLarge}, {long + "?", 0, api.ErrForm},
		{"", 0, api.ErrForm}, {".", 0, api.ErrForm}, {"+", 0, api.ErrForm}, {"-.", 0, api.ErrForm}, {"e5", 0, api.ErrForm}, {".e5", 0, api.ErrForm}, {"1e", 0, api.ErrForm}, {"1e+", 0, api.ErrForm}, {"1e5.", 0, api.ErrForm}, {"1e5x", 0, api.ErrForm}, {"1d0", 0, api.ErrForm}, {"1f0", 0, api.ErrForm}, {"1..2", 0, api.ErrForm}, {"1.2.3", 0, api.ErrForm}, {"--1", 0, api.ErrForm}, {" 1", 0, api.ErrForm}, {"1 ", 0, api.ErrForm}, {"1e5e5", 0, api.ErrForm}, {"1_0", 0, api.ErrForm}, {"0x1", 0, api.ErrForm}, {"inf", 0, api.ErrForm}, {"nan", 0, api.ErrForm}, {"1/2", 0, api.ErrForm}, {"１", 0, api.ErrForm}, {"1e-", 0, api.ErrForm}, {"1\x00", 0, api.ErrForm},
	} {
		if x, e := Read(Single, c.s); x != c.x || e != c.e {
			t.Errorf("Read(%.40q) = %x, %v; want %x, %v", c.s, x, e, c.x, c.e)
		}
	}
	r := rand.New(rand.NewSource(8))
	for range 5000 {
		s := strconv.FormatUint(r.Uint64()>>uint(r.Intn(64)), 10)
		at := r.Intn(len(s) + 1)
		s = s[:at] + "." + s[at:] + "e" + strconv.Itoa(r.Intn(700)-350)
		for f, width := range []int{32, 64} {
			want, err := strconv.ParseFloat(s, width)
			x, e := Read(Format(f), s)
			if (err != nil) != (e == api.ErrOver) || err == nil && x != bitsOf(Format(f), want) {
				t.Errorf("Read(%q) = %x, %v; want %v, %v", s, x, e, want, err)
			}
		}
	}
}

// P4.1 and P4.6.
func TestPlaces(t *testing.T) {
	for _, c := range []struct {
		x    string
		n    int
		want string
	}{
		{"1/8", 2, "0.12"}, {"3/8", 2, "0.38"}, {"-1/1000", 2, "0.00"}, {"-1/200", 2, "0.00"}, {"-3/200", 2, "-0.02"}, {"5/2", 0, "2."}, {"7/2", 0, "4."}, {"-1/2", 0, "0."}, {"0", 0, "0."}, {"0", 3, "0.000"}, {"999/1000", 2, "1.00"}, {"-999/1000", 2, "-1.00"}, {"12345", 1, "12345.0"}, {"1/3", 10, "0.3333333333"}, {"100", 0, "100."}, {"-7", 0, "-7."}, {"1/1000", 3, "0.001"},
	} {
		if s, e := Places(ratio(t, c.x), c.n); s != c.want || e != api.OK {
			t.Errorf("Places of %s and %d = %q, %v; want %q", c.x, c.n, s, e, c.want)
		}
	}
	for _, n := range []int{-1, 401, math.MinInt, math.MaxInt} {
		if s, e := Places(frac(1, 2), n); s != "" || e != api.ErrArg {
			t.Errorf("%d Places: %q, %v", n, s, e)
		}
	}
	if s, e := Places(frac(1, 3), 400); e != api.OK || s != "0."+strings.Repeat("3", 400) {
		t.Errorf("400 Places: %q, %v", s, e)
	}
	r := rand.New(rand.NewSource(9))
	for range 3000 {
		x := frac(r.Int63n(20001)-10000, 1+r.Int63n(2000))
		n := r.Intn(5)
		s, e := Places(x, n)
		ahead, behind, point := strings.Cut(s, ".")
		digits := strings.TrimPrefix(ahead, "-")
		if e != api.OK || !point || len(behind) != n || len(digits) == 0 || len(digits) > 1 && digits[0] == '0' {
			t.Errorf("Places of %s and %d = %q, %v", text(x), n, s, e)
		}
		ten, _ := rational.Of(integer.New(10)).Power(n)
		z := ratio(t, ahead+behind)
		off := z.Sub(x.Mul(ten)).Abs()
		if c := off.Cmp(frac(1, 2)); c > 0 || c == 0 && z.Numerator().Odd() {
			t.Errorf("Places of %s and %d = %q", text(x), n, s)
		}
	}
}
