package float

import (
	"math"
	"math/rand"
	"testing"

	"commonform/api"
)

// machine is an operation of the machine, in a format: float32 operations are exact roundings of those of float64 for these four.
func machine(f Format, op string, x, y float64) float64 {
	if f == Single {
		a, b := float32(x), float32(y)
		switch op {
		case "Add":
			return float64(a + b)
		case "Sub":
			return float64(a - b)
		case "Mul":
			return float64(a * b)
		}
		return float64(a / b)
	}
	switch op {
	case "Add":
		return x + y
	case "Sub":
		return x - y
	case "Mul":
		return x * y
	}
	return x / y
}

// P4.1: arithmetic is that of the machine, with the signs of zeros.
func TestArithmetic(t *testing.T) {
	operations := map[string]func(Format, uint64, uint64) (uint64, api.Errno){"Add": Add, "Sub": Sub, "Mul": Mul, "Div": Div}
	eachSome(func(f Format, x, y uint64) {
		for _, other := range []uint64{y, x, x ^ signBit(f), 0, signBit(f)} {
			for op, operate := range operations {
				z, e := operate(f, x, other)
				if op == "Div" && number(f, other) == 0 {
					if e != api.ErrZero || z != 0 {
						t.Errorf("%x by %x = %x, %v", x, other, z, e)
					}
					continue
				}
				want := bitsOf(f, machine(f, op, number(f, x), number(f, other)))
				if !finite(f, want) {
					if e != api.ErrOver || z != 0 {
						t.Errorf("%s of %x and %x = %x, %v", op, x, other, z, e)
					}
				} else if e != api.OK || z != want {
					t.Errorf("%s of %x and %x = %x, %v; want %x", op, x, other, z, e, want)
				}
			}
		}
		if z, e := Neg(f, x); e != api.OK || z != x^signBit(f) {
			t.Errorf("Neg of %x = %x, %v", x, z, e)
		}
		z, e := Root(f, x)
		switch root := math.Sqrt(number(f, x)); {
		case math.IsNaN(root):
			if e != api.ErrArg || z != 0 {
				t.Errorf("Root of %x = %x, %v", x, z, e)
			}
		case e != api.OK || z != bitsOf(f, root):
			t.Errorf("Root of %x = %x, %v; want %x", x, z, e, bitsOf(f, root))
		}
	})
	if z, e := Root(Double, minusDouble); z != minusDouble || e != api.OK {
		t.Errorf("Root of -0 = %x, %v", z, e)
	}
	for _, c := range []struct{ x, y, want uint64 }{{0x3f800000, 0x33800000, 0x3f800000}, {0x3f800000, 0x33800001, 0x3f800001}, {minusSingle, minusSingle, minusSingle}, {minusSingle, 0, 0}} {
		if z, e := Add(Single, c.x, c.y); z != c.want || e != api.OK {
			t.Errorf("%x + %x = %x, %v", c.x, c.y, z, e)
		}
	}
}

// P4.4.
func TestArithmeticLaws(t *testing.T) {
	r := rand.New(rand.NewSource(6))
	eachSome(func(f Format, x, y uint64) {
		for name, operate := range map[string]func(Format, uint64, uint64) (uint64, api.Errno){"Add": Add, "Mul": Mul} {
			a, e := operate(f, x, y)
			if b, d := operate(f, y, x); a != b || e != d {
				t.Errorf("%s of %x and %x is not commutative", name, x, y)
			}
		}
		opposite, _ := Neg(f, x)
		if z, e := Add(f, x, opposite); z != 0 || e != api.OK {
			t.Errorf("Add of %x and its Neg = %x, %v", x, z, e)
		}
		n := r.Intn(100) - 50
		power := bitsOf(f, math.Ldexp(1, n))
		a, e := Mul(f, x, power)
		if b, d := Scale(f, x, n); a != b || e != d {
			t.Errorf("Mul of %x by 2^%d = %x, %v; Scale %x, %v", x, n, a, e, b, d)
		}
		square, e := Mul(f, x, x)
		v, _ := Value(f, x)
		if w, _ := Value(f, square); e == api.OK && w.Cmp(v.Mul(v)) == 0 {
			if root, _ := Root(f, square); root != x&^signBit(f) {
				t.Errorf("Root of the square of %x = %x", x, root)
			}
		}
	})
	for range 3000 { // differences of near numbers are exact
		x := some(r, Single)
		y, e := Scale(Single, x^minusSingle, 0)
		if f := 1 + r.Float64(); e == api.OK && math.Abs(number(Single, x)*f) < 1e38 {
			y = bitsOf(Single, number(Single, y)*f)
		}
		if a, b := math.Abs(number(Single, x)), math.Abs(number(Single, y)); a > 2*b || b > 2*a {
			continue
		}
		z, e := Add(Single, x, y)
		v, _ := Value(Single, x)
		w, _ := Value(Single, y)
		if sum, _ := Value(Single, z); e != api.OK || sum.Cmp(v.Add(w)) != 0 {
			t.Errorf("the sum of %x and %x is not exact: %x, %v", x, y, z, e)
		}
	}
}
