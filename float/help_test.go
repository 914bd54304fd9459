package float

import (
	"math"
	"math/big"
	"math/rand"
	"testing"

	"commonform/api"
	"commonform/integer"
	"commonform/rational"
)

const (
	greatestSingle = 0x7f7fffff
	greatestDouble = 0x7fefffffffffffff
	minusSingle    = 1 << 31
	minusDouble    = 1 << 63
)

func ratio(t *testing.T, s string) rational.Ratio {
	t.Helper()
	x, e := rational.Parse(s, 10)
	if e != api.OK {
		t.Fatalf("Parse(%q): %v", s, e)
	}
	return x
}

func text(x rational.Ratio) string {
	s, _ := x.Text(10)
	return s
}

func frac(n, d int64) rational.Ratio {
	x, _ := rational.New(integer.New(n), integer.New(d))
	return x
}

// number returns what the library takes a float for.
func number(f Format, x uint64) float64 {
	if f == Single {
		return float64(math.Float32frombits(uint32(x)))
	}
	return math.Float64frombits(x)
}

// bitsOf returns the bits of the float of a format that the library takes as nearest.
func bitsOf(f Format, x float64) uint64 {
	if f == Single {
		return uint64(math.Float32bits(float32(x)))
	}
	return math.Float64bits(x)
}

func finite(f Format, x uint64) bool {
	n := number(f, x)
	return !math.IsNaN(n) && !math.IsInf(n, 0)
}

// some makes floats by chance: of all bits, near powers of two, near 0, with few bits, and near the greatest one.
func some(r *rand.Rand, f Format) uint64 {
	for {
		x := r.Uint64()
		if f == Single {
			x >>= 32
		}
		sign := x & signBit(f)
		switch r.Intn(7) {
		case 0:
			x = sign | uint64(r.Intn(5))
		case 1:
			x = x>>fractionBits[f]<<fractionBits[f] + uint64(r.Intn(5)) - 2
		case 2:
			x = bitsOf(f, float64(r.Intn(2000)-1000)/16)
		case 3:
			x = sign | (infinity(f) - 1 - uint64(r.Intn(3)))
		case 4:
			x = bitsOf(f, float64(r.Intn(2000)-1000)/math.Pow(10, float64(r.Intn(20))))
		}
		if f == Single {
			x &= 1<<32 - 1
		}
		if finite(f, x) {
			return x
		}
	}
}

// eachSome calls a test with many pairs of floats of each format.
func eachSome(test func(f Format, x, y uint64)) {
	r := rand.New(rand.NewSource(1))
	for _, f := range []Format{Single, Double} {
		for range 4000 {
			test(f, some(r, f), some(r, f))
		}
	}
}

func exact(x float64) *big.Rat { return new(big.Rat).SetFloat64(x) }

// positive returns a value with the bits of 0 for -0.
func positive(f Format, x uint64) uint64 {
	if x == signBit(f) {
		return 0
	}
	return x
}

// wrongFloats are bits that are no float, for each format.
func wrongFloats() []struct {
	f Format
	x uint64
} {
	return []struct {
		f Format
		x uint64
	}{
		{Single, 0x7f800000}, {Single, 0xff800000}, {Single, 0x7fc00000}, {Single, 0xffffffff}, {Single, 1 << 32}, {Single, 1<<63 | 1}, {Single, math.MaxUint64},
		{Double, 0x7ff0000000000000}, {Double, 0xfff0000000000000}, {Double, 0x7ff8000000000000}, {Double, math.MaxUint64},
		{-1, 0}, {2, 0}, {math.MinInt, 5}, {math.MaxInt, 5},
	}
}
