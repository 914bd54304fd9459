package format

import (
	"math/big"
	"math/rand"
	"strconv"
	"strings"
	"testing"

	"commonform/api"
)

// P13.1: ~F with places and without them.
func TestFixed(t *testing.T) {
	tenth, minus := single("3dcccccd"), single("bf000000")
	check(t,
		put("~F ~F ~F", "0.1 -0.5 0.0", tenth, minus, single("80000000")), put("~F ~F", "0.1 0.10000000149011612", tenth, double("3fb99999a0000000")), put("~F ~F", "1.0 0.5", num("1"), ratio("1/2")), put("~F", "0.33333334", ratio("1/3")), put("~F ~F", "16777216.0 123456790000.0", num("16777217"), num("123456789012")), put("~F", "0.0001", double("3f1a36e2eb1c432d")), put("~F", "100000000000000000000.0", double("4415af1d78b58c40")), put("~F", "-123.5", single("c2f70000")), put("~F", "0.0", num("0")),
		put("~,2F ~,2F ~,0F ~,3F", "3.14 0.12 2. -0.500", ratio("22/7"), ratio("1/8"), ratio("5/2"), minus), put("~,2F", "0.00", ratio("-1/1000")), put("~,1F", "123456789012345678901234567890.0", num("123456789012345678901234567890")), put("~,4F", "0.1000", tenth), put("~,10F", "0.1000000015", tenth), put("~,100F", "0."+strings.Repeat("3", 100), ratio("1/3")),
		put("~6,2F", "  3.14", ratio("22/7")), put("~3,2F|~4,2F|~5,2F", ".50|0.50| 0.50", ratio("1/2"), ratio("1/2"), ratio("1/2")), put("~4,2F|~3,2F", "-.50|-.50", ratio("-1/2"), ratio("-1/2")), put("~1,0F|~2,0F", "0.|0.", ratio("1/4"), ratio("1/4")), put("~2F|~3F|~1F", ".5|0.5|.5", ratio("1/2"), ratio("1/2"), ratio("1/2")), put("~3F", "10.0", num("10")), put("~2F", ".0", num("0")), put("~0,2F", "0.50", ratio("1/2")),
		put("~,2,1F|~,2,-1F|~,2,0F|~,,2F", "5.00|0.05|0.50|50.0", ratio("1/2"), ratio("1/2"), ratio("1/2"), ratio("1/2")), put("~,,1F", "1.0", tenth), put("~,0,100F", "1"+strings.Repeat("0", 100)+".", num("1")), put("~,,-100F", "0.0", num("-1")), put("~,,-40F", "0."+strings.Repeat("0", 39)+"1", num("1")), put("~,100,-100F", "0."+strings.Repeat("0", 99)+"1", num("1")),
		put("~2,1,,'*F|~3,1,,'*F|~4,1,,'*F|~5,1,,'*F", "**|***|****|100.0", num("100"), num("100"), num("100"), num("100")), put("~2,1,,'*F|~1,1,,'*F", ".5|*", ratio("1/2"), ratio("1/2")), put("~7,2,,,'.F", "...3.14", ratio("22/7")), put("~7,2,,'*,'.F", "...3.14", ratio("22/7")), put("~0,2,,'*F", "3.14", ratio("22/7")),
		put("~@F ~@F ~@F", "+3.0 -0.5 +0.0", num("3"), minus, num("0")), put("~,2@F|~4,2@F|~3,2@F", "+0.50|+.50|+.50", ratio("1/2"), ratio("1/2"), ratio("1/2")), put("~,2@F", "+0.00", ratio("-1/1000")), put("~8,2@F", "   +0.50", ratio("1/2")), put("~v,vF", " 0.5", num("4"), num("1"), ratio("1/2")),
		put("~F", "340282350000000000000000000000000000000.0", single("7f7fffff")),
	)
	check(t,
		fails("~F", api.ErrNone), fails("~F", api.ErrType, str("1")), fails("~F", api.ErrType, node(api.FormComplex, "", num("1"), num("2"))), fails("~F", api.ErrType, single("7f800000")), fails("~,2F", api.ErrType, list()), fails("~F", api.ErrType, num(strings.Repeat("1", 20001))),
		fails("~F", api.ErrRange, num("1"+strings.Repeat("0", 39))), put("~,0F", "1"+strings.Repeat("0", 39)+".", num("1"+strings.Repeat("0", 39))), fails("~,,1F", api.ErrRange, single("7f7fffff")), fails("~,,1F", api.ErrRange, double("7fefffffffffffff")), fails("~,,39F", api.ErrRange, num("1")), put("~,,39F", "1"+strings.Repeat("0", 39)+".0", double("3ff0000000000000")),
		fails("~1001F", api.ErrRange, num("1")), fails("~-1F", api.ErrRange, num("1")), fails("~,101F", api.ErrRange, num("1")), fails("~,-1F", api.ErrRange, num("1")), fails("~,,101F", api.ErrRange, num("1")), fails("~,,-101F", api.ErrRange, num("1")), fails("~,,,1F", api.ErrType, num("1")), fails("~,,,,1F", api.ErrType, num("1")), fails("~'1F", api.ErrType, num("1")),
	)
}

// P13.1: ~$.
func TestMoney(t *testing.T) {
	half, minus := ratio("1/2"), ratio("-1/2")
	check(t,
		put("~$ ~$ ~$ ~$", "5.00 0.50 -0.50 123.46", num("5"), half, minus, ratio("6172839/50000")), put("~0$ ~1$", "2. 0.5", ratio("5/2"), half), put("~,3$ ~,0$ ~,1$ ~,3$", "005.00 0.50 0.50 -000.50", num("5"), half, half, minus), put("~1,3,8$", "   000.5", half), put("~1,3,8:$ ~1,3,8:$", "   000.5 -  000.5", half, minus), put("~,,8$|~,,8:$|~,,8@$|~,,8:@$", "   -0.50|-   0.50|   -0.50|-   0.50", minus, minus, minus, minus), put("~@$ ~,,8@$ ~,,8:@$ ~@$", "+0.50    +0.50 +   0.50 -0.50", half, half, half, minus), put("~,,8,'*$", "****0.50", half), put("~,,1$|~0,0,0$", "0.50|0.", half, ratio("1/4")), put("~$ ~@$", "0.00 +0.00", ratio("-1/1000"), ratio("-1/1000")), put("~100,100,205$", strings.Repeat(" ", 4)+strings.Repeat("0", 99)+"1."+strings.Repeat("0", 100), num("1")), put("~v,v,v,v$", ".05.0", num("1"), num("2"), num("5"), char("."), num("5")),
		fails("~$", api.ErrNone), fails("~$", api.ErrType, str("1")), fails("~$", api.ErrType, node(api.FormComplex, "", num("1"), num("2"))), fails("~$", api.ErrType, single("7fc00000")), fails("~101$", api.ErrRange, num("1")), fails("~,101$", api.ErrRange, num("1")), fails("~,,1001$", api.ErrRange, num("1")), fails("~,,,1$", api.ErrType, num("1")), fails("~-1$", api.ErrRange, num("1")), fails("~,-1$", api.ErrRange, num("1")),
	)
}

// P13.1: ~F of floats has the shortest digits that are read as them; with places it is the nearest decimal.
func TestFixedLaws(t *testing.T) {
	r := rand.New(rand.NewSource(1))
	for range 3000 {
		bits := r.Uint32()
		if bits>>23&255 == 255 {
			continue
		}
		text := strconv.FormatUint(uint64(bits), 16)
		x := single(strings.Repeat("0", 8-len(text)) + text)
		s := output(t, "~F", x)
		value, err := strconv.ParseFloat(s, 32)
		if err != nil {
			t.Fatal(err)
		}
		exact := output(t, "~,100F", x)
		if want, _ := strconv.ParseFloat(exact, 64); float32(value) != float32(want) || want < 0 != strings.HasPrefix(s, "-") {
			t.Fatalf("~F of %s is %s, and with places %s", text, s, exact)
		}
		n, d := int64(r.Intn(2000)-1000), int64(1+r.Intn(50))
		value2 := big.NewRat(n, d)
		if value2.IsInt() {
			continue
		}
		places := r.Intn(5)
		got, ok := new(big.Rat).SetString(strings.TrimSuffix(output(t, "~,vF", whole(places), ratio(value2.String())), "."))
		if !ok {
			t.Fatal("no decimal")
		}
		half := new(big.Rat).SetFrac(big.NewInt(1), new(big.Int).Mul(big.NewInt(2), new(big.Int).Exp(big.NewInt(10), big.NewInt(int64(places)), nil)))
		if difference := new(big.Rat).Sub(got, value2); difference.Abs(difference).Cmp(half) > 0 {
			t.Fatalf("~,%dF of %s is %s", places, value2, got)
		}
	}
}
