package reader

import (
	"math"
	"strconv"
	"strings"
	"testing"

	"commonform/api"
	"commonform/forms"
)

// P7.1: Character.
func TestCharacter(t *testing.T) {
	for name, want := range map[string]rune{
		"Null": 0, "Backspace": 8, "Tab": 9, "Newline": 10, "Linefeed": 10, "Page": 12, "Return": 13, "Space": 32, "Rubout": 127, "NULL": 0, "null": 0, "sPaCe": 32,
		"U0041": 'A', "u0041": 'A', "U00e9": 'é', "U00E9": 'é', "U10FFFF": 0x10ffff, "U010000": 0x10000, "u0000": 0, "UD7FF": 0xd7ff, "UE000": 0xe000, "U000041": 'A', "Uabcd": 0xabcd,
	} {
		if c, ok := Character(name); c != want || !ok {
			t.Errorf("Character(%q) = %x, %v; want %x", name, c, ok, want)
		}
	}
	for _, name := range []string{"", "a", "A", "Spac", "Spaces", " Space", "U", "U041", "U0000041", "U110000", "UFFFFFF", "UD800", "udfff", "U00g1", "U+041", "U-041", "U 041", "U00_1", "0041", "X0041", "Bac\u212aspace", "Re\u0442urn", "\xff", "Escape", "Nul", "Delete", "U0x41"} {
		if c, ok := Character(name); c != 0 || ok {
			t.Errorf("Character(%q) = %x, %v", name, c, ok)
		}
	}
	for c := rune(0); c <= 0x10ffff; c += 61 {
		name := strings.ToUpper(strconv.FormatInt(int64(c), 16))
		name = "u" + strings.Repeat("0", max(0, 4-len(name))) + name
		if got, ok := Character(name); ok == (c >= 0xd800 && c <= 0xdfff) || ok && got != c {
			t.Fatalf("Character(%q) = %x, %v", name, got, ok)
		}
	}
}

// P7.1: Feature.
func TestFeature(t *testing.T) {
	odd := key("A")
	odd.Kids = []api.Form{num("1")}
	not := func(f api.Form) api.Form { return list(key("NOT"), f) }
	for _, c := range []struct {
		f    api.Form
		want bool
		e    api.Errno
	}{
		{key("A"), true, api.OK}, {key("B"), true, api.OK}, {key("C"), false, api.OK}, {key("a"), false, api.OK}, {key(""), false, api.OK}, {key("NOT"), false, api.OK},
		{not(key("A")), false, api.OK}, {not(key("C")), true, api.OK}, {not(not(key("A"))), true, api.OK},
		{list(key("AND")), true, api.OK}, {list(key("AND"), key("A")), true, api.OK}, {list(key("AND"), key("A"), key("B")), true, api.OK}, {list(key("AND"), key("A"), key("C")), false, api.OK}, {list(key("AND"), key("C"), key("A")), false, api.OK},
		{list(key("OR")), false, api.OK}, {list(key("OR"), key("C")), false, api.OK}, {list(key("OR"), key("A"), key("C")), true, api.OK}, {list(key("OR"), key("C"), key("A")), true, api.OK}, {list(key("OR"), key("A"), key("B")), true, api.OK}, {list(key("AND"), list(key("OR"), key("A")), not(key("C"))), true, api.OK},
		{sym("A"), false, api.ErrForm}, {forms.Symbol("", "A"), false, api.ErrForm}, {num("1"), false, api.ErrForm}, {forms.Nil(), false, api.ErrForm}, {api.Form{}, false, api.ErrForm}, {odd, false, api.ErrForm}, {vec(key("AND")), false, api.ErrForm}, {str("A"), false, api.ErrForm}, {api.Form{Kind: api.FormString, Home: "KEYWORD", Text: "A"}, false, api.ErrForm},
		{list(key("NOT")), false, api.ErrForm}, {list(key("NOT"), key("A"), key("A")), false, api.ErrForm}, {list(key("XOR"), key("A")), false, api.ErrForm}, {list(sym("AND"), key("A")), false, api.ErrForm}, {list(list(key("AND"))), false, api.ErrForm}, {cons(key("AND"), key("A")), false, api.ErrForm}, {cons(key("NOT"), key("A"), key("B")), false, api.ErrForm}, {cons(key("AND")), false, api.ErrForm}, {cons(), false, api.ErrForm},
		{list(key("OR"), key("A"), num("1")), false, api.ErrForm}, {list(key("AND"), key("C"), num("1")), false, api.ErrForm}, {not(num("1")), false, api.ErrForm}, {list(key("OR"), key("A"), list(key("AND"), sym("A"))), false, api.ErrForm}, {list(key("AND"), lab("1", key("A"))), false, api.ErrForm}, {ref("1"), false, api.ErrForm},
	} {
		if is, e := Feature(c.f, []string{"A", "B"}); is != c.want || e != c.e {
			t.Errorf("Feature(%s) = %v, %v; want %v, %v", show(c.f), is, e, c.want, c.e)
		}
	}
	if is, e := Feature(key("A"), nil); is || e != api.OK {
		t.Errorf("Feature without features = %v, %v", is, e)
	}
}

// P7.1 and P7.7: Array.
func TestArray(t *testing.T) {
	array := func(text string, kids ...api.Form) api.Form { return node(api.FormArray, text, kids...) }
	one, two, a := num("1"), num("2"), sym("A")
	bits := func(s string) api.Form { return node(api.FormBits, s) }
	ones := func(n int) api.Form { return str(strings.Repeat("1", n)) }
	deep := vec()
	for range 100 {
		deep = vec(deep)
	}
	for _, c := range []struct {
		rank     int
		contents api.Form
		want     api.Form
		e        api.Errno
	}{
		{0, a, array("", a), api.OK}, {0, list(a), array("", list(a)), api.OK}, {0, ref("1"), array("", ref("1")), api.OK}, {0, lab("1", vec()), array("", lab("1", vec())), api.OK},
		{1, list(a, one), vec(a, one), api.OK}, {1, forms.Nil(), vec(), api.OK}, {1, vec(a), vec(a), api.OK}, {1, str("aé"), vec(char("a"), char("é")), api.OK}, {1, bits("10"), vec(one, num("0")), api.OK}, {1, str(""), vec(), api.OK}, {1, list(list(a), lab("1", vec()), ref("1")), vec(list(a), lab("1", vec()), ref("1")), api.OK},
		{2, list(list(one, two), vec(a, a)), array("2 2", one, two, a, a), api.OK}, {2, vec(str("ab"), bits("01"), list(one, two)), array("3 2", char("a"), char("b"), num("0"), one, one, two), api.OK}, {2, forms.Nil(), array("0 0"), api.OK}, {2, str(""), array("0 0"), api.OK}, {2, list(forms.Nil(), vec(), str("")), array("3 0"), api.OK}, {3, list(forms.Nil(), forms.Nil()), array("2 0 0"), api.OK}, {7, forms.Nil(), array("0 0 0 0 0 0 0"), api.OK}, {3, list(list(list(one), list(two))), array("1 2 1", one, two), api.OK}, {2, list(list(lab("1", a), ref("1"))), array("1 2", lab("1", a), ref("1")), api.OK},
		{1, a, api.Form{}, ErrShape}, {1, one, api.Form{}, ErrShape}, {1, cons(a, one), api.Form{}, ErrShape}, {1, lab("1", list(a)), api.Form{}, ErrShape}, {1, ref("1"), api.Form{}, ErrShape}, {1, array("1 1", a), api.Form{}, ErrShape}, {1, char("a"), api.Form{}, ErrShape}, {2, list(a), api.Form{}, ErrShape}, {2, str("a"), api.Form{}, ErrShape}, {2, bits("0"), api.Form{}, ErrShape}, {2, list(list(a), list(a, a)), api.Form{}, ErrShape}, {2, list(list(a), forms.Nil()), api.Form{}, ErrShape}, {2, list(forms.Nil(), list(a)), api.Form{}, ErrShape}, {2, list(list(a), a), api.Form{}, ErrShape}, {2, list(list(a), ref("1")), api.Form{}, ErrShape}, {3, list(list(forms.Nil()), list(list(a))), api.Form{}, ErrShape}, {2, list(list(a), cons(a, a)), api.Form{}, ErrShape}, {3, list(forms.Nil(), list(forms.Nil())), api.Form{}, ErrShape},
		{-1, a, api.Form{}, api.ErrArg}, {8, forms.Nil(), api.Form{}, api.ErrArg}, {math.MinInt, forms.Nil(), api.Form{}, api.ErrArg}, {math.MaxInt, forms.Nil(), api.Form{}, api.ErrArg},
		{1, list(num("x")), api.Form{}, api.ErrForm}, {-1, num("x"), api.Form{}, api.ErrForm}, {9, vec(many(2000, a)...), api.Form{}, api.ErrSize}, {0, deep, api.Form{}, api.ErrSize}, {0, vec(many(1999, a)...), array("", vec(many(1999, a)...)), api.OK}, {1, vec(many(1999, a)...), vec(many(1999, a)...), api.OK}, {0, str("\xff"), api.Form{}, api.ErrForm}, {0, api.Form{}, api.Form{}, api.ErrForm},
		{1, ones(2000), vec(many(2000, char("1"))...), api.OK}, {1, ones(2001), api.Form{}, api.ErrSize}, {2, list(ones(2001)), api.Form{}, api.ErrSize}, {2, list(ones(1000), ones(1000)), array("2 1000", many(2000, char("1"))...), api.OK}, {2, list(ones(1000), ones(1000), ones(1000)), api.Form{}, api.ErrSize}, {2, list(ones(1001), bits(strings.Repeat("1", 1001))), api.Form{}, api.ErrSize}, {0, list(lab("1", vec()), lab("1", vec())), array("", list(lab("1", vec()), lab("1", vec()))), api.OK},
	} {
		f, e := Array(c.rank, c.contents)
		if e != c.e || show(f) != show(c.want) {
			t.Errorf("Array(%d, %.60s) = %.60s, %v; want %.60s, %v", c.rank, show(c.contents), show(f), e, show(c.want), c.e)
		}
		if e == api.OK && c.rank != 1 {
			product := 1
			for _, n := range strings.Fields(f.Text) {
				k, _ := strconv.Atoi(n)
				product *= k
			}
			if len(strings.Fields(f.Text)) != c.rank || len(f.Kids) != product {
				t.Errorf("Array(%d, %.60s) has %d elements and the dimensions %q", c.rank, show(c.contents), len(f.Kids), f.Text)
			}
		}
	}
	part := list(list(a))
	f, _ := Array(1, part)
	f.Kids[0].Kids[0].Text = "CHANGED"
	if part.Kids[0].Kids[0].Text != "A" {
		t.Error("Array shares memory with its contents")
	}
}
