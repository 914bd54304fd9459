package integer

import (
	"math/big"
	"math/rand"
	"testing"
)

// toBig returns an integer as the library has it, by its limbs.
func toBig(x Int) *big.Int {
	negative, limbs := x.Limbs()
	z := new(big.Int)
	for i := len(limbs) - 1; i >= 0; i-- {
		z.Lsh(z, 32)
		z.Or(z, big.NewInt(int64(limbs[i])))
	}
	if negative {
		z.Neg(z)
	}
	return z
}

// fromBig returns an integer of the library.
func fromBig(z *big.Int) Int {
	var limbs []uint32
	mask := big.NewInt(1<<32 - 1)
	for left := new(big.Int).Abs(z); left.Sign() != 0; left = new(big.Int).Rsh(left, 32) {
		limbs = append(limbs, uint32(new(big.Int).And(left, mask).Uint64()))
	}
	return Make(z.Sign() < 0, limbs)
}

// some makes integers by chance: with many bits or few, near powers of two, and with long runs of equal bits.
func some(r *rand.Rand) Int {
	z := new(big.Int)
	switch r.Intn(4) {
	case 0:
		z.SetInt64(int64(r.Intn(41) - 20))
	case 1:
		z.Lsh(big.NewInt(1), uint(r.Intn(200)))
		z.Add(z, big.NewInt(int64(r.Intn(3)-1)))
	case 2:
		for range 1 + r.Intn(6) {
			n := uint(r.Intn(70))
			z.Lsh(z, n)
			if r.Intn(2) == 0 {
				z.Add(z, new(big.Int).Sub(new(big.Int).Lsh(big.NewInt(1), n), big.NewInt(1)))
			}
		}
	default:
		z.Rand(r, new(big.Int).Lsh(big.NewInt(1), uint(1+r.Intn(500))))
	}
	if r.Intn(2) == 0 {
		z.Neg(z)
	}
	return fromBig(z)
}

// eachSome calls a test with many triples of integers.
func eachSome(test func(x, y, z Int)) {
	r := rand.New(rand.NewSource(2))
	for range 5000 {
		test(some(r), some(r), some(r))
	}
}

// right fails if an integer is not the one that the library has, or not as Limbs says.
func right(t *testing.T, what string, got Int, want *big.Int) {
	t.Helper()
	if toBig(got).Cmp(want) != 0 {
		t.Errorf("%s = %v; want %v", what, toBig(got), want)
	}
	if negative, limbs := got.Limbs(); len(limbs) > 0 && limbs[len(limbs)-1] == 0 || len(limbs) == 0 && negative {
		t.Errorf("%s has the limbs %v, %v", what, negative, limbs)
	}
}

func same(x, y Int) bool { return x.Cmp(y) == 0 }

// large returns an integer with so many bits, most of them set by chance.
func large(r *rand.Rand, bits int) Int {
	z := new(big.Int).Rand(r, new(big.Int).Lsh(big.NewInt(1), uint(bits)))
	return fromBig(z.SetBit(z, bits-1, 1))
}
