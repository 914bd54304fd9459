package format

import (
	"math/big"
	"math/rand"
	"strings"
	"testing"

	"commonform/api"
	"commonform/forms"
)

// P13.1: ~A and ~S.
func TestData(t *testing.T) {
	nilForm := list()
	check(t,
		put("~A ~S", "ab \"ab\"", str("ab"), str("ab")), put("~A ~S", "x #\\x", char("x"), char("x")), put("~A ~S", "abc |abc|", sym("abc"), sym("abc")), put("~A", "(a #(1))", list(sym("A"), node(api.FormVector, "", num("1")))), put("~A ~S", "car :k", forms.Symbol("COMMON-LISP", "CAR"), forms.Symbol("KEYWORD", "K")),
		put("~A|~:A|~:S|~:@A", "nil|()|()|()", nilForm, nilForm, nilForm, nilForm), put("~:A", "(nil)", list(nilForm)), put("~:A", "1", num("1")), put("~5:A|~5:@S", "()   |   ()", nilForm, nilForm),
		put("~5A|~5@A|~5S", "ab   |   ab|\"ab\" ", str("ab"), str("ab"), str("ab")), put("~2A|~1A|~0A", "ab|ab|ab", str("ab"), str("ab"), str("ab")), put("~5,,,'.A", "ab...", str("ab")), put("~5,,,'.@A", "...ab", str("ab")),
		put("~0,1,0A|", "ab|", str("ab")), put("~,,2A|", "ab  |", str("ab")), put("~,,2@A|", "  ab|", str("ab")), put("~4,,2A|", "ab  |", str("ab")), put("~5,3A|", "ab   |", str("ab")), put("~6,3A|", "ab      |", str("ab")), put("~6,3,1A|", "ab    |", str("ab")), put("~7,3,1,'.@A|", ".......ab|", str("ab")), put("~5,1000A|", "ab"+strings.Repeat(" ", 1000)+"|", str("ab")), put("~1000,,A|", "ab"+strings.Repeat(" ", 998)+"|", str("ab")),
		put("~VA|", "ab  |", num("4"), str("ab")), put("~v,,,vA|", "ab..|", num("4"), char("."), str("ab")), put("~vA|", "ab|", nilForm, str("ab")), put("~#A|~A", "ab|c", str("ab"), str("c")), put("~#A|", "a|", str("a")),
	)
	check(t, put("~v,#A|~A~A", "a   |00", num("2"), str("a"), num("0"), num("0")))
	check(t,
		fails("~A", api.ErrNone), fails("~vA", api.ErrNone), fails("~vA", api.ErrNone, num("1")), fails("~'xA", api.ErrType, num("1")), fails("~,,,1A", api.ErrType, num("1")), fails("~vA", api.ErrType, str("x"), num("1")), fails("~vA", api.ErrType, char("é"), num("1")), fails("~vA", api.ErrType, char("x"), num("1")), fails("~,,,vA", api.ErrType, num("1"), num("1")), fails("~vA", api.ErrType, ratio("1/2"), num("1")), fails("~vA", api.ErrType, sym("NIL"), num("1")), fails("~vA", api.ErrType, num(strings.Repeat("1", 20001)), num("1")),
		fails("~-1A", api.ErrRange, num("1")), fails("~1001A", api.ErrRange, num("1")), fails("~,0A", api.ErrRange, num("1")), fails("~,1001A", api.ErrRange, num("1")), fails("~,,-1A", api.ErrRange, num("1")), fails("~,,1001A", api.ErrRange, num("1")), fails("~vA", api.ErrRange, num("1000000001"), num("1")), fails("~vA", api.ErrRange, num("-1000000001"), num("1")), fails("~vA", api.ErrRange, num("-99999999999999999999"), num("1")), fails("~vA", api.ErrRange, num("1000000000"), num("1")),
		// the first parameter with an error decides, and parameters come ahead of the argument
		fails("~1001,'xA", api.ErrRange), fails("~'x,1001A", api.ErrType), fails("~1001,vA", api.ErrRange), fails("~v,1001A", api.ErrNone), fails("~1001A", api.ErrRange), fails("~'xA", api.ErrType),
		fails("~A", api.ErrForm, single("7f800000")), fails("~S", api.ErrForm, list(single("7f800000"))), fails("~A~A", api.ErrForm, num(strings.Repeat("1", 20001))),
	)
}

// P13.1: integers in a radix.
func TestRadices(t *testing.T) {
	check(t,
		put("~D ~B ~O ~X", "-10 1010 12 A", nums("-10 10 10 10")...), put("~@D ~@D ~@D", "+5 -5 +0", nums("5 -5 0")...), put("~:D ~:D ~:@D ~:D", "1,234 -123,456 +1,234,567 123", nums("1234 -123456 1234567 123")...), put("~,,'.,4:D", "123.4567", num("1234567")), put("~,,'.,1:X", "F.F", num("255")),
		put("~6D|~6,'*D|~1D", "    42|****42|42", nums("42 42 42")...), put("~0D|~1,,,1D", "42|42", nums("42 42")...), put("~7:D|~8:@D", "  1,234|  +1,234", nums("1234 1234")...), put("~,,,1D", "1234", num("1234")), put("~v,vD", "..5", num("3"), char("."), num("5")),
		put("~4D|~4,'.D|~1D", "  ab|..ab|ab", str("ab"), str("ab"), str("ab")), put("~5:@D|", "  1/2|", ratio("1/2")), put("~D ~X", "a 0.5", sym("A"), single("3f000000")), put("~D", "nil", list()), put("~:D", "nil", list()),
		put("~10R ~2R ~36R ~16@R ~,R", "10 101 Z +FF 7", nums("10 5 35 255 7")...), put("~8,4R", "  11", num("9")), put("~16,6,'0R", "0000FF", num("255")), put("~2,,,'-,4:R", "1111-0000", num("240")), put("~,5R|", "   12|", num("12")), put("~vR", "12", list(), num("12")), put("~vR", "1100", num("2"), num("12")), put("~16R", "(x)", list(sym("X"))), put("~16,5R", "  1/2", ratio("1/2")),
		put("~R ~:R ~@R ~:@R", "four fourth IV IIII", nums("4 4 4 4")...), put("~,:R", "1,000", num("1000")),
		fails("~D", api.ErrNone), fails("~1001D", api.ErrRange, num("1")), fails("~,1D", api.ErrType, num("1")), fails("~,,1D", api.ErrType, num("1")), fails("~,,,0D", api.ErrRange, num("1")), fails("~,,,1001D", api.ErrRange, num("1")), fails("~,,,'3D", api.ErrType, num("1")), fails("~D", api.ErrForm, double("7ff0000000000000")), fails("~D", api.ErrType, num(strings.Repeat("1", 20001))),
		fails("~1R", api.ErrRange, num("1")), fails("~37R", api.ErrRange, num("1")), fails("~'aR", api.ErrType, num("1")), fails("~2,1001R", api.ErrRange, num("1")),
		fails("~R", api.ErrType, str("1")), fails("~:R", api.ErrType, ratio("1/2")), fails("~@R", api.ErrType, list()), fails("~@R", api.ErrRange, num("4000")), fails("~@R", api.ErrRange, num("0")), fails("~:@R", api.ErrRange, num("5000")), put("~:@R", "MMMM", num("4000")), fails("~R", api.ErrRange, num("1"+strings.Repeat("0", 24))), fails("~:R", api.ErrRange, num("-1"+strings.Repeat("0", 24))), fails("~R", api.ErrNone),
	)
}

// P13.2: integers are read back in each radix, without commas.
func TestRadixLaws(t *testing.T) {
	r := rand.New(rand.NewSource(1))
	for range 2000 {
		n := new(big.Int).Rand(r, new(big.Int).Lsh(big.NewInt(1), uint(1+r.Intn(200))))
		if r.Intn(2) == 0 {
			n.Neg(n)
		}
		radix := 2 + r.Intn(35)
		x := num(n.String())
		for _, c := range []struct {
			radix, control string
			base           int
		}{{"", "~D", 10}, {"", "~:@D", 10}, {"", "~:B", 2}, {"", "~:O", 8}, {"", "~:X", 16}} {
			s := strings.ReplaceAll(output(t, c.control, x), ",", "")
			if back, ok := new(big.Int).SetString(s, c.base); !ok || back.Cmp(n) != 0 {
				t.Fatalf("%s of %s is %s", c.control, n, s)
			}
		}
		s := strings.ReplaceAll(output(t, "~v,250:R", whole(radix), x), ",", "")
		if back, ok := new(big.Int).SetString(strings.TrimLeft(s, " "), radix); !ok || back.Cmp(n) != 0 {
			t.Fatalf("~%dR of %s is %s", radix, n, s)
		}
	}
}

// P13.1: ~C and ~P.
func TestCharactersAndPlurals(t *testing.T) {
	check(t,
		put("~C~C", "xé", char("x"), char("é")), put("~@C ~:@C ~@C", "#\\x #\\Space #\\Newline", char("x"), char(" "), char("\n")), put("~:C ~:C ~:C ~:C ~:C ~:C ~:C ~:C ~:C ~:C", "Space Newline Tab Page Rubout Backspace Return Null x \x01", char(" "), char("\n"), char("\t"), char("\f"), char("\x7f"), char("\b"), char("\r"), char("\x00"), char("x"), char("\x01")), put("~C", "\n", char("\n")),
		fails("~C", api.ErrType, num("1")), fails("~C", api.ErrType, str("x")), fails("~C", api.ErrNone), fails("~@C", api.ErrType, num("1")), fails("~:C", api.ErrType, list()),
		put("~P~P~P~P", "sss", num("2"), num("1"), num("0"), single("3f800000")), put("~@P~@P", "yies", num("1"), num("3")), put("~D item~:P", "1 item", num("1")), put("~D item~:P, ~D famil~:@P", "3 items, 2 families", num("3"), num("2")), put("~A~:P", "xs", str("x")), put("~D~:P~:P", "1", num("1")), put("~P", "s", str("1")),
	)
	check(t, fails("~P", api.ErrNone), fails("~:P", api.ErrNone, num("1")), fails("~A~2*~:P", api.ErrNone, num("1")))
}
