package integer

import (
	"math"
	"math/big"
	"math/rand"
	"strings"
	"testing"

	"commonform/api"
)

// bit returns bit i of x by the definition: of x/2^i, rounded down, or of -1 - x.
func bit(x Int, i int) bool {
	z := toBig(x)
	if z.Sign() < 0 {
		z.Not(z)
		return z.Bit(i) == 0
	}
	return z.Bit(i) == 1
}

// P2.1: Shift.
func TestShift(t *testing.T) {
	r := rand.New(rand.NewSource(6))
	eachSome(func(x, y, z Int) {
		n := r.Intn(300)
		up, e := x.Shift(n)
		right(t, "Shift up", up, new(big.Int).Lsh(toBig(x), uint(n)))
		down, f := x.Shift(-n)
		right(t, "Shift down", down, new(big.Int).Rsh(toBig(x), uint(n)))
		if back, g := up.Shift(-n); e != api.OK || f != api.OK || g != api.OK || !same(back, x) {
			t.Errorf("%v shifted by %d and back: %v", toBig(x), n, toBig(back))
		}
	})
	top := New(1)
	top, _ = top.Shift(api.MaxBits - 1)
	for _, c := range []struct {
		x      Int
		n      int
		e      api.Errno
		length int
	}{
		{New(1), api.MaxBits - 1, api.OK, api.MaxBits},
		{New(1), api.MaxBits, api.ErrLarge, 0},
		{New(-1), api.MaxBits, api.OK, api.MaxBits},
		{New(-1), api.MaxBits + 1, api.ErrLarge, 0},
		{New(3), math.MaxInt, api.ErrLarge, 0},
		{Int{}, math.MaxInt, api.OK, 0},
		{New(3), math.MinInt, api.OK, 0},
		{New(-3), math.MinInt, api.OK, 0},
		{Int{}, math.MinInt, api.OK, 0},
		{top.Mul(top), 0, api.OK, 2*api.MaxBits - 1},
		{top.Mul(top), 1, api.ErrLarge, 0},
		{top.Mul(top), -1, api.OK, 2*api.MaxBits - 2},
	} {
		x, e := c.x.Shift(c.n)
		if e != c.e || x.Length() != c.length {
			t.Errorf("Shift of %.20v by %d: %d bits, %v", toBig(c.x), c.n, x.Length(), e)
		}
	}
	if x, _ := New(-3).Shift(math.MinInt); !same(x, New(-1)) {
		t.Errorf("Shift of -3 by the least int = %v", toBig(x))
	}
	if x, _ := New(-5).Shift(-1); !same(x, New(-3)) {
		t.Errorf("Shift of -5 by -1 = %v", toBig(x))
	}
}

// P2.1 and P2.5: all sixteen operations, bit by bit.
func TestBoole(t *testing.T) {
	for op := range 16 {
		for a := range int64(2) {
			for b := range int64(2) {
				x, _ := New(-a).Boole(op, New(-b)) // all bits are a, and b
				want := -int64(op >> (2*a + b) & 1)
				if !same(x, New(want)) {
					t.Errorf("Boole %d of bits %d and %d = %v", op, a, b, toBig(x))
				}
			}
		}
	}
	r := rand.New(rand.NewSource(7))
	eachSome(func(x, y, z Int) {
		op := r.Intn(16)
		v, e := x.Boole(op, y)
		if e != api.OK {
			t.Errorf("Boole %d: %v", op, e)
		}
		for i := range 40 {
			i *= 1 + r.Intn(15)
			a, b := 0, 0
			if bit(x, i) {
				a = 1
			}
			if bit(y, i) {
				b = 1
			}
			if bit(v, i) != (op>>(2*a+b)&1 == 1) {
				t.Errorf("bit %d of Boole %d of %v and %v", i, op, toBig(x), toBig(y))
			}
		}
		and, _ := x.Boole(8, y)
		or, _ := x.Boole(14, y)
		xor, _ := x.Boole(6, y)
		right(t, "and", and, new(big.Int).And(toBig(x), toBig(y)))
		right(t, "or", or, new(big.Int).Or(toBig(x), toBig(y)))
		if !same(x.Add(y), xor.Add(and).Add(and)) {
			t.Errorf("the sum of %v and %v is not that of exclusive or and twice and", toBig(x), toBig(y))
		}
	})
	for _, op := range []int{-1, 16, math.MinInt, math.MaxInt} {
		if x, e := New(1).Boole(op, New(1)); e != api.ErrArg || x.Sign() != 0 {
			t.Errorf("Boole %d: %v, %v", op, toBig(x), e)
		}
	}
}

// P2.1 and P2.5: Length, Count and Bit.
func TestCounts(t *testing.T) {
	for _, c := range []struct {
		n             int64
		length, count int
	}{{0, 0, 0}, {1, 1, 1}, {-1, 0, 0}, {7, 3, 3}, {-8, 3, 3}, {-7, 3, 2}, {8, 4, 1}, {-9, 4, 1}, {1 << 32, 33, 1}, {-1 << 32, 32, 32}, {math.MinInt64, 63, 63}} {
		if x := New(c.n); x.Length() != c.length || x.Count() != c.count {
			t.Errorf("%d: Length %d, Count %d", c.n, x.Length(), x.Count())
		}
	}
	eachSome(func(x, y, z Int) {
		other := New(-1).Sub(x)
		if x.Length() != other.Length() || x.Count() != other.Count() {
			t.Errorf("Length or Count of %v and -1 less it", toBig(x))
		}
		n := x.Length()
		power := new(big.Int).Lsh(big.NewInt(1), uint(n))
		fits := func(p *big.Int) bool { return new(big.Int).Neg(p).Cmp(toBig(x)) <= 0 && toBig(x).Cmp(p) < 0 }
		if !fits(power) || n > 0 && fits(power.Rsh(power, 1)) {
			t.Errorf("Length of %v = %d", toBig(x), n)
		}
		count := 0
		for i := range n + 40 {
			if x.Bit(i) != bit(x, i) {
				t.Errorf("bit %d of %v", i, toBig(x))
			}
			if x.Bit(i) == (x.Sign() >= 0) {
				count++
			}
		}
		if x.Count() != count {
			t.Errorf("Count of %v = %d; want %d", toBig(x), x.Count(), count)
		}
	})
	for _, n := range []int64{5, -5, 0} {
		if x := New(n); x.Bit(-1) || x.Bit(math.MinInt) || x.Bit(math.MaxInt) != (n < 0) {
			t.Errorf("bits of %d that are far away", n)
		}
	}
}

// P2.1 and P2.5: fields.
func TestFields(t *testing.T) {
	r := rand.New(rand.NewSource(8))
	eachSome(func(x, y, z Int) {
		size, position := r.Intn(120), r.Intn(250)
		f, e := x.Field(size, position)
		d, g := x.Deposit(y, size, position)
		if e != api.OK || g != api.OK || f.Sign() < 0 || f.Length() > size {
			t.Errorf("Field = %v, %v; Deposit %v", toBig(f), e, g)
		}
		for i := range position + size + 40 {
			inside := i >= position && i < position+size
			if inside && f.Bit(i-position) != bit(x, i) {
				t.Errorf("bit %d of a Field of %v", i, toBig(x))
			}
			if d.Bit(i) != (inside && bit(y, i-position) || !inside && bit(x, i)) {
				t.Errorf("bit %d of a Deposit in %v", i, toBig(x))
			}
		}
		if d.Sign() < 0 != (x.Sign() < 0) {
			t.Errorf("Deposit changes the sign of %v", toBig(x))
		}
		part, _ := y.Field(size, 0)
		if back, _ := d.Field(size, position); !same(back, part) {
			t.Errorf("Field of Deposit of %v", toBig(y))
		}
		if same, _ := x.Deposit(f, size, position); same.Cmp(x) != 0 {
			t.Errorf("Deposit of a Field of %v is %v", toBig(x), toBig(same))
		}
	})
	all, e := New(-1).Field(api.MaxBits, api.MaxBits)
	if e != api.OK || all.Count() != api.MaxBits || all.Length() != api.MaxBits {
		t.Errorf("the greatest Field: %d, %v", all.Length(), e)
	}
	placed, e := Int{}.Deposit(New(-1), api.MaxBits, api.MaxBits)
	if e != api.OK || placed.Count() != api.MaxBits || placed.Length() != 2*api.MaxBits || placed.Bit(api.MaxBits-1) {
		t.Errorf("the greatest Deposit: %d, %v", placed.Length(), e)
	}
	for _, c := range [][2]int{{-1, 0}, {0, -1}, {api.MaxBits + 1, 0}, {0, api.MaxBits + 1}, {math.MinInt, math.MaxInt}} {
		f, e := New(5).Field(c[0], c[1])
		d, g := New(5).Deposit(New(1), c[0], c[1])
		if e != api.ErrArg || g != api.ErrArg || f.Sign() != 0 || d.Sign() != 0 {
			t.Errorf("the field %v: %v, %v", c, e, g)
		}
	}
}

// P2.1 and P2.6.
func TestDigits(t *testing.T) {
	r := rand.New(rand.NewSource(9))
	eachSome(func(x, y, z Int) {
		radix := 2 + r.Intn(35)
		s, e := x.Text(radix)
		if want := strings.ToUpper(toBig(x).Text(radix)); e != api.OK || s != want {
			t.Errorf("Text of %v in %d = %q, %v", toBig(x), radix, s, e)
		}
		if back, e := Parse(s, radix); e != api.OK || !same(back, x) {
			t.Errorf("Parse(%q, %d) = %v, %v", s, radix, toBig(back), e)
		}
		sign, digits := "+", s
		if x.Sign() < 0 {
			sign, digits = "-", s[1:]
		}
		other := sign + "000" + strings.ToLower(digits)
		if back, e := Parse(other, radix); e != api.OK || !same(back, x) {
			t.Errorf("Parse(%q, %d) = %v, %v", other, radix, toBig(back), e)
		}
	})
	if x, e := Parse("-0zZ", 36); e != api.OK || !same(x, New(-1295)) {
		t.Errorf("-0zZ = %v, %v", toBig(x), e)
	}
	if x, e := Parse("-0", 2); e != api.OK || x.Sign() != 0 {
		t.Errorf("-0 = %v, %v", toBig(x), e)
	}
	for _, radix := range []int{2, 10, 36} {
		if s, e := (Int{}).Text(radix); s != "0" || e != api.OK {
			t.Errorf("0 in %d = %q, %v", radix, s, e)
		}
	}
	// the text in the radix 16 is that of the limbs
	if s, _ := Make(true, []uint32{0xabc, 0x12345678, 0xf}).Text(16); s != "-F1234567800000ABC" {
		t.Errorf("Text = %q", s)
	}
}

// P2.1: the errors of digits, in order.
func TestDigitErrors(t *testing.T) {
	long := strings.Repeat("7", api.MaxDigits)
	for _, c := range []struct {
		s     string
		radix int
		want  api.Errno
	}{
		{"", 10, api.ErrForm}, {"+", 10, api.ErrForm}, {"-", 10, api.ErrForm}, {"+-1", 10, api.ErrForm}, {"--1", 10, api.ErrForm}, {"1 ", 10, api.ErrForm}, {" 1", 10, api.ErrForm}, {"1.", 10, api.ErrForm}, {"1_0", 10, api.ErrForm}, {"0x1", 16, api.ErrForm},
		{"2", 2, api.ErrForm}, {"8", 8, api.ErrForm}, {"a", 10, api.ErrForm}, {"Z", 35, api.ErrForm}, {"@", 36, api.ErrForm}, {"[", 36, api.ErrForm}, {"`", 36, api.ErrForm}, {"{", 36, api.ErrForm}, {"/", 36, api.ErrForm}, {":", 36, api.ErrForm}, {"é", 36, api.ErrForm}, {"１", 10, api.ErrForm}, {"1\xff", 36, api.ErrForm},
		{"1", 1, api.ErrArg}, {"1", 37, api.ErrArg}, {"1", 0, api.ErrArg}, {"1", -10, api.ErrArg}, {"", 37, api.ErrArg},
		{long, 10, api.OK}, {long, 36, api.OK}, {long + "7", 10, api.ErrLarge}, {long + "?", 10, api.ErrLarge}, {long + "7", 1, api.ErrArg}, {long[1:] + "?", 10, api.ErrForm}, {"-" + long, 10, api.ErrLarge},
	} {
		x, e := Parse(c.s, c.radix)
		if e != c.want || e != api.OK && x.Sign() != 0 {
			t.Errorf("Parse(%.20q, %d) = %.20v, %v; want %v", c.s, c.radix, toBig(x), e, c.want)
		}
		if e == api.OK {
			if s, e := x.Text(c.radix); e != api.OK || s != c.s {
				t.Errorf("Text of %.20q: %v", c.s, e)
			}
		}
	}
	for _, radix := range []int{math.MinInt, -1, 0, 1, 37, math.MaxInt} {
		if s, e := New(5).Text(radix); e != api.ErrArg || s != "" {
			t.Errorf("Text in %d = %q, %v", radix, s, e)
		}
	}
}
