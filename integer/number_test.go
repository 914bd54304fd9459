package integer

import (
	"cmp"
	"math"
	"math/big"
	"math/rand"
	"slices"
	"testing"

	"commonform/api"
)

// P2.1: New, Make, Limbs, Int64, Sign, Cmp and Odd.
func TestNumbers(t *testing.T) {
	samples := []int64{0, 1, -1, 2, -2, math.MaxInt32, math.MinInt32, math.MaxUint32, 1 << 32, -1 << 32, math.MaxInt64, math.MinInt64, math.MinInt64 + 1}
	for _, n := range samples {
		x := New(n)
		right(t, "New", x, big.NewInt(n))
		if m, ok := x.Int64(); m != n || !ok {
			t.Errorf("Int64 of %d = %d, %v", n, m, ok)
		}
		if x.Sign() != cmp.Compare(n, 0) || x.Odd() != (n%2 != 0) {
			t.Errorf("%d: Sign %d, Odd %v", n, x.Sign(), x.Odd())
		}
		for _, m := range samples {
			if c := x.Cmp(New(m)); c != cmp.Compare(n, m) {
				t.Errorf("Cmp of %d and %d = %d", n, m, c)
			}
		}
	}
	for _, x := range []Int{New(math.MinInt64).Sub(New(1)), New(math.MaxInt64).Add(New(1)), Make(false, []uint32{0, 0, 1}), Make(true, []uint32{math.MaxUint32, math.MaxUint32})} {
		if n, ok := x.Int64(); n != 0 || ok {
			t.Errorf("Int64 of %v = %d, %v", toBig(x), n, ok)
		}
	}
	var zero Int
	for _, x := range []Int{zero, New(0), Make(false, nil), Make(true, []uint32{}), Make(true, []uint32{0, 0})} {
		negative, limbs := x.Limbs()
		if x.Sign() != 0 || !same(x, zero) || negative || len(limbs) != 0 || x.Odd() {
			t.Errorf("0: %v, %v", negative, limbs)
		}
	}
	if negative, limbs := Make(true, []uint32{7, 0, 9, 0, 0}).Limbs(); !negative || !slices.Equal(limbs, []uint32{7, 0, 9}) {
		t.Errorf("Limbs = %v, %v", negative, limbs)
	}
}

// Rule R4, and that values never change.
func TestLimbsAreNotShared(t *testing.T) {
	given := []uint32{1, 2, 3, 4}
	x := Make(false, given[:2])
	given[0], given[1] = 9, 9
	if _, limbs := x.Limbs(); !slices.Equal(limbs, []uint32{1, 2}) {
		t.Errorf("Make keeps its argument: %v", limbs)
	}
	_, limbs := x.Limbs()
	limbs[0] = 9
	all := []Int{x.Neg(), x.Abs(), x.Add(Int{}), x.Sub(New(1)), x.Mul(New(1))}
	if _, limbs := x.Limbs(); !slices.Equal(limbs, []uint32{1, 2}) || len(all) != 5 {
		t.Errorf("Limbs gives out what it keeps: %v", limbs)
	}
	if given[2] != 3 || given[3] != 4 {
		t.Errorf("Make changed memory behind its argument: %v", given)
	}
}

// P2.1: arithmetic is that of the library.
func TestArithmetic(t *testing.T) {
	eachSome(func(x, y, z Int) {
		a, b := toBig(x), toBig(y)
		right(t, "Neg", x.Neg(), new(big.Int).Neg(a))
		right(t, "Abs", x.Abs(), new(big.Int).Abs(a))
		right(t, "Add", x.Add(y), new(big.Int).Add(a, b))
		right(t, "Sub", x.Sub(y), new(big.Int).Sub(a, b))
		right(t, "Mul", x.Mul(y), new(big.Int).Mul(a, b))
		right(t, "Gcd", x.Gcd(y), new(big.Int).GCD(nil, nil, new(big.Int).Abs(a), new(big.Int).Abs(b)))
		if x.Cmp(y) != a.Cmp(b) || x.Sign() != a.Sign() {
			t.Errorf("Cmp of %v and %v", a, b)
		}
		if b.Sign() == 0 {
			return
		}
		q, m, e := x.Divide(y)
		if e != api.OK {
			t.Errorf("Divide of %v and %v: %v", a, b, e)
		}
		quotient, rest := new(big.Int).QuoRem(a, b, new(big.Int))
		right(t, "quotient", q, quotient)
		right(t, "remainder", m, rest)
	})
	q, m, e := New(5).Divide(Int{})
	if e != api.ErrZero || q.Sign() != 0 || m.Sign() != 0 {
		t.Errorf("5/0 = %v, %v, %v", toBig(q), toBig(m), e)
	}
	if g := (Int{}).Gcd(Int{}); g.Sign() != 0 {
		t.Errorf("Gcd of 0 and 0 = %v", toBig(g))
	}
}

// P2.1: divisions whose guessed digits are too great, by one and by two.
func TestHardDivisions(t *testing.T) {
	const m = math.MaxUint32
	for _, c := range []struct{ a, b []uint32 }{
		{[]uint32{0, 0, 1 << 31, 1<<31 - 1}, []uint32{1, 0, 1 << 31}},
		{[]uint32{3, 0, 1 << 31}, []uint32{1, 0, 1 << 29}},
		{[]uint32{0, m - 1, 1 << 31}, []uint32{m, 1 << 31}},
		{[]uint32{m, m, m, m}, []uint32{m, m}},
		{[]uint32{0, 0, 0, 1}, []uint32{m, m}},
		{[]uint32{0, 0, m, m - 1}, []uint32{m, m, m}},
		{[]uint32{0, 0, 0, 0, 1}, []uint32{1, 1}},
	} {
		x, y := Make(false, c.a), Make(false, c.b)
		q, r, _ := x.Divide(y)
		quotient, rest := new(big.Int).QuoRem(toBig(x), toBig(y), new(big.Int))
		right(t, "quotient", q, quotient)
		right(t, "remainder", r, rest)
	}
	r := rand.New(rand.NewSource(3))
	limb := func() uint32 { return []uint32{0, 1, 1 << 31, 1<<31 - 1, m, m - 1}[r.Intn(6)] }
	for range 20000 {
		var a, b []uint32
		for range 1 + r.Intn(6) {
			a = append(a, limb())
		}
		for range 1 + r.Intn(4) {
			b = append(b, limb())
		}
		x, y := Make(false, a), Make(false, b)
		if y.Sign() == 0 {
			continue
		}
		q, rest, _ := x.Divide(y)
		wantQ, wantR := new(big.Int).QuoRem(toBig(x), toBig(y), new(big.Int))
		right(t, "quotient", q, wantQ)
		right(t, "remainder", rest, wantR)
	}
}

// P2.2.
func TestRing(t *testing.T) {
	eachSome(func(x, y, z Int) {
		for name, holds := range map[string]bool{
			"Add is commutative":    same(x.Add(y), y.Add(x)),
			"Mul is commutative":    same(x.Mul(y), y.Mul(x)),
			"Add is associative":    same(x.Add(y).Add(z), x.Add(y.Add(z))),
			"Mul is associative":    same(x.Mul(y).Mul(z), x.Mul(y.Mul(z))),
			"Mul is distributive":   same(x.Mul(y.Add(z)), x.Mul(y).Add(x.Mul(z))),
			"Sub undoes Add":        same(x.Add(y).Sub(y), x),
			"Cmp is antisymmetric":  x.Cmp(y) == -y.Cmp(x),
			"Cmp agrees with sums":  x.Cmp(y) == x.Add(z).Cmp(y.Add(z)),
			"Cmp is that of x - y":  x.Cmp(y) == x.Sub(y).Sign(),
			"Cmp is transitive":     !(x.Cmp(y) <= 0 && y.Cmp(z) <= 0) || x.Cmp(z) <= 0,
			"Cmp agrees with Mul":   z.Sign() <= 0 || x.Cmp(y) == x.Mul(z).Cmp(y.Mul(z)),
			"Neg of Neg is nothing": same(x.Neg().Neg(), x),
		} {
			if !holds {
				t.Errorf("%s: not for %v, %v, %v", name, toBig(x), toBig(y), toBig(z))
			}
		}
	})
}

// P2.3.
func TestDivision(t *testing.T) {
	eachSome(func(x, y, z Int) {
		if y.Sign() == 0 {
			return
		}
		q, r, e := x.Divide(y)
		if e != api.OK || !same(y.Mul(q).Add(r), x) || r.Abs().Cmp(y.Abs()) >= 0 || r.Sign() != 0 && r.Sign() != x.Sign() {
			t.Errorf("%v by %v: %v, %v, %v", toBig(x), toBig(y), toBig(q), toBig(r), e)
		}
		g := x.Gcd(y)
		for _, n := range []Int{x, y} {
			if _, rest, e := n.Divide(g); e != api.OK || rest.Sign() != 0 || g.Sign() <= 0 {
				t.Errorf("the Gcd %v does not divide %v", toBig(g), toBig(n))
			}
		}
		if z.Sign() == 0 {
			return
		}
		if !same(x.Mul(z).Gcd(y.Mul(z)), z.Abs().Mul(g)) {
			t.Errorf("Gcd of the products of %v and %v by %v", toBig(x), toBig(y), toBig(z))
		}
		if _, rest, _ := x.Mul(z).Gcd(y.Mul(z)).Divide(z); rest.Sign() != 0 {
			t.Errorf("the common divisor %v does not divide the Gcd", toBig(z))
		}
	})
}

// P2.3: numbers of many limbs, with a common divisor of many limbs.
func TestLargeGcd(t *testing.T) {
	r := rand.New(rand.NewSource(4))
	for _, bits := range []int{64, 65, 96, 200, 5000, 60000} {
		x, y, z := large(r, bits), large(r, bits/2+1), large(r, bits)
		right(t, "Gcd", x.Gcd(z), new(big.Int).GCD(nil, nil, toBig(x), toBig(z)))
		right(t, "Gcd", x.Mul(y).Gcd(z.Mul(y).Neg()), new(big.Int).GCD(nil, nil, toBig(x.Mul(y)), toBig(z.Mul(y))))
	}
	// neighbours in Fibonacci's sequence need the most steps
	a, b := New(1), New(1)
	for range 5000 {
		a, b = b, a.Add(b)
	}
	if !same(a.Gcd(b), New(1)) || !same(a.Mul(New(12)).Gcd(b.Mul(New(18))), New(6).Mul(a.Mul(New(2)).Gcd(b.Mul(New(3))))) {
		t.Error("Gcd of Fibonacci's numbers")
	}
}

// P2.1 and P2.4.
func TestPowers(t *testing.T) {
	for _, base := range []int64{0, 1, -1, 2, -2, 3, -10, 1 << 40} {
		for n := range 40 {
			x, e := New(base).Power(n)
			if e != api.OK {
				t.Errorf("%d^%d: %v", base, n, e)
			}
			right(t, "Power", x, new(big.Int).Exp(big.NewInt(base), big.NewInt(int64(n)), nil))
			for m := range 10 {
				y, _ := New(base).Power(m)
				if both, e := New(base).Power(n + m); e != api.OK || !same(both, x.Mul(y)) {
					t.Errorf("%d^(%d + %d): %v", base, n, m, e)
				}
			}
		}
	}
	top, _ := New(2).Power(api.MaxBits - 1)
	for _, c := range []struct {
		x      Int
		n      int
		e      api.Errno
		length int
	}{
		{New(2), api.MaxBits - 1, api.OK, api.MaxBits},
		{New(2), api.MaxBits, api.ErrLarge, 0},
		{New(-2), api.MaxBits - 1, api.OK, api.MaxBits - 1},
		{New(-2), api.MaxBits, api.ErrLarge, 0},
		{New(-2), api.MaxBits + 1, api.ErrLarge, 0},
		{New(2), math.MaxInt, api.ErrLarge, 0},
		{New(-3), -1, api.ErrArg, 0},
		{Int{}, math.MinInt, api.ErrArg, 0},
		{Int{}, 0, api.OK, 1},
		{Int{}, math.MaxInt, api.OK, 0},
		{New(1), math.MaxInt, api.OK, 1},
		{New(-1), math.MaxInt - 1, api.OK, 1},
		{New(-1), math.MaxInt, api.OK, 0},
		{top, 1, api.OK, api.MaxBits},
		{top, 2, api.ErrLarge, 0},
		{top.Mul(New(-2)), 1, api.OK, api.MaxBits},
		{top.Mul(New(2)), 1, api.ErrLarge, 0},
		{top.Mul(New(2)), 0, api.OK, 1},
		{top.Mul(top), 1, api.ErrLarge, 0},
		{top.Mul(top), 0, api.OK, 1},
		{New(10), 19728, api.OK, 65535},
		{New(10), 19729, api.ErrLarge, 0},
	} {
		x, e := c.x.Power(c.n)
		if e != c.e || x.Length() != c.length {
			t.Errorf("a power %d of a number with %d bits: %d bits, %v", c.n, c.x.Length(), x.Length(), e)
		}
	}
}

// P2.1 and P2.4.
func TestRoots(t *testing.T) {
	for n := range int64(300) {
		root, e := New(n).Root()
		right(t, "Root", root, new(big.Int).Sqrt(big.NewInt(n)))
		if e != api.OK {
			t.Errorf("Root of %d: %v", n, e)
		}
	}
	eachSome(func(x, y, z Int) {
		square := x.Mul(x)
		if root, e := square.Root(); e != api.OK || !same(root, x.Abs()) {
			t.Errorf("Root of the square of %v = %v, %v", toBig(x), toBig(root), e)
		}
		root, e := y.Abs().Root()
		next := root.Add(New(1))
		if e != api.OK || root.Mul(root).Cmp(y.Abs()) > 0 || next.Mul(next).Cmp(y.Abs()) <= 0 {
			t.Errorf("Root of %v = %v, %v", toBig(y.Abs()), toBig(root), e)
		}
		if y.Sign() < 0 {
			if root, e := y.Root(); e != api.ErrArg || root.Sign() != 0 {
				t.Errorf("Root of %v = %v, %v", toBig(y), toBig(root), e)
			}
		}
	})
	x := large(rand.New(rand.NewSource(5)), 60000)
	for _, d := range []int64{-1, 0, 1} {
		n := x.Mul(x).Add(New(d))
		root, _ := n.Root()
		right(t, "a large Root", root, new(big.Int).Sqrt(toBig(n)))
	}
}
