package format

import (
	"math/rand"
	"strings"
	"testing"

	"commonform/api"
)

// P13.1: words for integers.
func TestCardinals(t *testing.T) {
	for text, want := range map[string]string{
		"0": "zero", "1": "one", "-1": "minus one", "10": "ten", "11": "eleven", "12": "twelve", "13": "thirteen", "15": "fifteen", "18": "eighteen", "19": "nineteen", "20": "twenty", "21": "twenty-one", "40": "forty", "90": "ninety", "99": "ninety-nine",
		"100": "one hundred", "101": "one hundred one", "110": "one hundred ten", "219": "two hundred nineteen", "999": "nine hundred ninety-nine", "1000": "one thousand", "1001": "one thousand one", "1045": "one thousand forty-five", "100000": "one hundred thousand", "-1000000": "minus one million", "1000001": "one million one", "2003000": "two million three thousand",
		"1000000000": "one billion", "1000000000000": "one trillion", "1000000000000000": "one quadrillion", "1000000000000000000": "one quintillion", "1000000000000000000000": "one sextillion",
		"-999000000000000000000012": "minus nine hundred ninety-nine sextillion twelve", "123456789012345678901234": "one hundred twenty-three sextillion four hundred fifty-six quintillion seven hundred eighty-nine quadrillion twelve trillion three hundred forty-five billion six hundred seventy-eight million nine hundred one thousand two hundred thirty-four",
	} {
		if s, e := Cardinal(num(text)); s != want || e != api.OK {
			t.Errorf("Cardinal(%s) = %q, %v, expected %q", text, s, e, want)
		}
	}
	for text, want := range map[string]string{
		"0": "zeroth", "1": "first", "-1": "minus first", "2": "second", "3": "third", "4": "fourth", "5": "fifth", "6": "sixth", "8": "eighth", "9": "ninth", "10": "tenth", "11": "eleventh", "12": "twelfth", "13": "thirteenth", "19": "nineteenth", "20": "twentieth", "21": "twenty-first", "30": "thirtieth", "32": "thirty-second", "100": "one hundredth", "103": "one hundred third", "112": "one hundred twelfth", "1000": "one thousandth", "1000008": "one million eighth",
	} {
		if s, e := Ordinal(num(text)); s != want || e != api.OK {
			t.Errorf("Ordinal(%s) = %q, %v, expected %q", text, s, e, want)
		}
	}
}

// P13.1: errors of words and numerals.
func TestWordErrors(t *testing.T) {
	long := "1" + strings.Repeat("0", 24)
	for _, c := range []struct {
		x    api.Form
		want api.Errno
	}{
		{str("1"), api.ErrType}, {ratio("1/2"), api.ErrType}, {single("3f800000"), api.ErrType}, {api.Form{}, api.ErrType}, {num("01"), api.ErrType}, {num(""), api.ErrType}, {num("+1"), api.ErrType}, {num("-0"), api.ErrType}, {api.Form{Kind: api.FormInt, Text: "1", Home: "P"}, api.ErrType}, {num(strings.Repeat("1", 20001)), api.ErrType},
		{num(long), api.ErrRange}, {num("-" + long), api.ErrRange}, {num(strings.Repeat("1", 20000)), api.ErrRange},
	} {
		if s, e := Cardinal(c.x); s != "" || e != c.want {
			t.Errorf("Cardinal(%.30v) = %q, %v, expected %v", c.x, s, e, c.want)
		}
		if s, e := Ordinal(c.x); s != "" || e != c.want {
			t.Errorf("Ordinal(%.30v) = %q, %v, expected %v", c.x, s, e, c.want)
		}
		if s, e := Roman(c.x, false); s != "" || e != c.want {
			t.Errorf("Roman(%.30v) = %q, %v, expected %v", c.x, s, e, c.want)
		}
	}
	for _, c := range []struct {
		text string
		old  bool
		want string
		e    api.Errno
	}{
		{"0", false, "", api.ErrRange}, {"-1", false, "", api.ErrRange}, {"4000", false, "", api.ErrRange}, {"0", true, "", api.ErrRange}, {"5000", true, "", api.ErrRange}, {"9223372036854775809", true, "", api.ErrRange}, {"18446744073709551617", false, "", api.ErrRange},
		{"1", false, "I", api.OK}, {"4", false, "IV", api.OK}, {"4", true, "IIII", api.OK}, {"9", true, "VIIII", api.OK}, {"14", false, "XIV", api.OK}, {"40", true, "XXXX", api.OK}, {"90", true, "LXXXX", api.OK}, {"400", true, "CCCC", api.OK}, {"900", true, "DCCCC", api.OK}, {"1994", false, "MCMXCIV", api.OK}, {"444", false, "CDXLIV", api.OK}, {"999", false, "CMXCIX", api.OK}, {"3999", false, "MMMCMXCIX", api.OK}, {"2008", false, "MMVIII", api.OK}, {"4000", true, "MMMM", api.OK}, {"4999", true, "MMMMDCCCCLXXXXVIIII", api.OK},
	} {
		if s, e := Roman(num(c.text), c.old); s != c.want || e != c.e {
			t.Errorf("Roman(%s, %v) = %q, %v, expected %q, %v", c.text, c.old, s, e, c.want, c.e)
		}
	}
}

// romanValue returns the value of a numeral: what stands ahead of a greater one counts against it.
func romanValue(s string) int {
	values := map[byte]int{'M': 1000, 'D': 500, 'C': 100, 'L': 50, 'X': 10, 'V': 5, 'I': 1}
	sum := 0
	for i := range len(s) {
		if i+1 < len(s) && values[s[i+1]] > values[s[i]] {
			sum -= values[s[i]]
		} else {
			sum += values[s[i]]
		}
	}
	return sum
}

// P13.2: numerals have the values of their integers; different integers have different words.
func TestWordLaws(t *testing.T) {
	words := map[string]int{}
	for n := -1500; n <= 5000; n++ {
		s, e := Cardinal(whole(n))
		if other, there := words[s]; e != api.OK || there {
			t.Fatalf("Cardinal(%d) = %q, %v, that of %d", n, s, e, other)
		}
		words[s] = n
		for _, old := range []bool{false, true} {
			s, e := Roman(whole(n), old)
			right := n >= 1 && (n <= 3999 || old && n <= 4999)
			if right && (e != api.OK || romanValue(s) != n) || !right && e != api.ErrRange {
				t.Fatalf("Roman(%d, %v) = %q, %v", n, old, s, e)
			}
		}
	}
}

// P13.1: groups of digits.
func TestGrouped(t *testing.T) {
	for _, c := range []struct {
		digits, comma string
		interval      int
		want          string
		e             api.Errno
	}{
		{"1234567", ",", 3, "1,234,567", api.OK}, {"-1234567", ",", 3, "-1,234,567", api.OK}, {"+123456", ",", 3, "+123,456", api.OK}, {"123", ",", 3, "123", api.OK}, {"-123", ",", 3, "-123", api.OK}, {"1234", ".", 1, "1.2.3.4", api.OK}, {"1234", "<>", 2, "12<>34", api.OK}, {"1234", "", 2, "1234", api.OK}, {"", ",", 3, "", api.OK}, {"-", ",", 3, "-", api.OK}, {"--1", ",", 1, "--,1", api.OK}, {"abcd", ",", 1000, "abcd", api.OK},
		{"1234", ",", 0, "", api.ErrArg}, {"1234", ",", -1, "", api.ErrArg}, {"1234", ",", 1001, "", api.ErrArg},
	} {
		if s, e := Grouped(c.digits, c.comma, c.interval); s != c.want || e != c.e {
			t.Errorf("Grouped(%q, %q, %d) = %q, %v, expected %q", c.digits, c.comma, c.interval, s, e, c.want)
		}
	}
}

// P13.1: texts that are spread over a width.
func TestJustified(t *testing.T) {
	for _, c := range []struct {
		texts              string
		width, step, least int
		front, back        bool
		want               string
	}{
		{"a|bc|d", 10, 1, 0, false, false, "a...bc...d"}, {"a|bc|d", 9, 1, 0, false, false, "a...bc..d"}, {"a|bc|d", 0, 1, 0, false, false, "abcd"}, {"a|bc|d", 0, 1, 2, false, false, "a..bc..d"}, {"a|b", 5, 4, 1, true, false, "..a.b"}, {"a|b", 5, 4, 1, false, true, "a..b."}, {"a|b", 6, 1, 0, true, true, "..a.b."}, {"abcd", 2, 3, 2, false, false, "....abcd"},
		{"a", 5, 1, 0, false, false, "....a"}, {"a", 5, 1, 0, true, false, "....a"}, {"a", 5, 1, 0, false, true, "a...."}, {"a", 5, 1, 0, true, true, "..a.."}, {"a", 6, 1, 0, true, true, "...a.."}, {"", 3, 1, 0, false, false, "..."}, {"|", 3, 1, 0, false, false, "..."}, {"abc", 3, 1, 0, false, false, "abc"}, {"abcd", 3, 5, 0, false, false, "....abcd"}, {"ab|cd", 1, 4, 0, false, false, "ab.cd"}, {"ab|cd", 0, 4, 0, false, false, "abcd"},
	} {
		s, e := Justified(strings.Split(c.texts, "|"), c.width, c.step, c.least, ".", c.front, c.back)
		if s != c.want || e != api.OK {
			t.Errorf("Justified(%q, %d, %d, %d, %v, %v) = %q, %v, expected %q", c.texts, c.width, c.step, c.least, c.front, c.back, s, e, c.want)
		}
	}
}

// P13.1: errors of Justified, one behind the other.
func TestJustifiedErrors(t *testing.T) {
	long := []string{strings.Repeat("x", 4001)}
	for _, c := range []struct {
		what               string
		texts              []string
		width, step, least int
		pad                string
		want               api.Errno
	}{
		{"no texts", nil, -1, 0, -1, "", api.ErrSize}, {"101 texts", make([]string, 101), -1, 0, -1, "", api.ErrSize}, {"a long text", long, -1, 0, -1, "", api.ErrSize}, {"a long text behind others", append(make([]string, 9), long...), 1, 1, 1, " ", api.ErrSize},
		{"no pad", []string{"a"}, -1, 0, -1, "", api.ErrArg}, {"a pad of two bytes", []string{"a"}, -1, 1, 0, "é", api.ErrArg}, {"a step of 0", []string{"a"}, -1, 0, 0, " ", api.ErrArg}, {"a step of 1001", []string{"a"}, 1001, 1001, 0, " ", api.ErrArg},
		{"a width below 0", []string{"a"}, -1, 1, 0, " ", api.ErrRange}, {"a width of 1001", []string{"a"}, 1001, 1, 0, " ", api.ErrRange}, {"least below 0", []string{"a"}, 0, 1, -1, " ", api.ErrRange}, {"least of 1001", []string{"a"}, 0, 1, 1001, " ", api.ErrRange},
		{"the greatest numbers", []string{"a"}, 1000, 1000, 1000, " ", api.OK}, {"100 texts", make([]string, 100), 0, 1, 0, " ", api.OK}, {"a text of 4000 bytes", []string{long[0][1:]}, 0, 1, 0, " ", api.OK},
	} {
		s, e := Justified(c.texts, c.width, c.step, c.least, c.pad, false, false)
		if e != c.want || e != api.OK && s != "" {
			t.Errorf("%s: %.20q, %v, expected %v", c.what, s, e, c.want)
		}
	}
}

// P13.4: widths, gaps and texts of Justified.
func TestJustifiedLaws(t *testing.T) {
	r := rand.New(rand.NewSource(1))
	for range 5000 {
		var texts []string
		for range 1 + r.Intn(5) {
			texts = append(texts, strings.Repeat("x", 1+r.Intn(4)))
		}
		width, step, least, front, back := r.Intn(30), 1+r.Intn(5), r.Intn(4), r.Intn(2) == 0, r.Intn(2) == 0
		s, e := Justified(texts, width, step, least, ".", front, back)
		if e != api.OK || len(s) < width || (len(s)-width)%step != 0 {
			t.Fatalf("Justified(%q, %d, %d, %d) = %q, %v", texts, width, step, least, s, e)
		}
		front = front || len(texts) == 1 && !back
		var gaps []int
		rest := s
		for i, text := range texts {
			pads := len(rest) - len(strings.TrimLeft(rest, "."))
			if i == 0 && !front {
				pads = 0
			}
			if i > 0 || front {
				gaps = append(gaps, pads)
			}
			if !strings.HasPrefix(rest[pads:], text) {
				t.Fatalf("Justified(%q, %d, %d, %d, %v, %v) = %q", texts, width, step, least, front, back, s)
			}
			rest = rest[pads+len(text):]
		}
		if back {
			gaps = append(gaps, len(rest))
		} else if rest != "" {
			t.Fatalf("Justified has %q behind its last text", rest)
		}
		sum := 0
		for i, gap := range gaps {
			sum += gap
			if gap < least || gap > gaps[0] || gaps[0]-gap > 1 || i > 0 && gap > gaps[i-1] {
				t.Fatalf("Justified(%q, %d, %d, %d, %v, %v) = %q with the gaps %v", texts, width, step, least, front, back, s, gaps)
			}
		}
		if needed := len(s) - sum + least*len(gaps); len(s) > width && len(s)-step >= needed {
			t.Fatalf("Justified(%q, %d, %d, %d) = %q is too wide", texts, width, step, least, s)
		}
	}
}

// P13.1: letters that are changed.
func TestCased(t *testing.T) {
	for _, c := range []struct {
		s                       string
		small, first, words, up string
	}{
		{"hello wORLD", "hello world", "Hello world", "Hello World", "HELLO WORLD"}, {"  a-b c", "  a-b c", "  A-b c", "  A-B C", "  A-B C"}, {"1ab2cd e", "1ab2cd e", "1Ab2cd e", "1Ab2cd E", "1AB2CD E"}, {"", "", "", "", ""}, {"ÉA", "Éa", "ÉA", "ÉA", "ÉA"}, {"@[`{AZaz", "@[`{azaz", "@[`{Azaz", "@[`{Azaz", "@[`{AZAZ"}, {"a0b A9B 0a 9a/a:b", "a0b a9b 0a 9a/a:b", "A0b a9b 0a 9a/a:b", "A0b A9b 0A 9A/A:B", "A0B A9B 0A 9A/A:B"}, {"don't", "don't", "Don't", "Don'T", "DON'T"}, {"A_B", "a_b", "A_b", "A_B", "A_B"}, {"99 x", "99 x", "99 X", "99 X", "99 X"},
	} {
		for i, want := range []string{c.small, c.first, c.words, c.up} {
			if s, e := Cased(c.s, i >= 2, i%2 == 1); s != want || e != api.OK {
				t.Errorf("Cased(%q, %v, %v) = %q, %v, expected %q", c.s, i >= 2, i%2 == 1, s, e, want)
			}
		}
	}
	if s, e := Cased(strings.Repeat("A", 20001), false, false); s != "" || e != api.ErrSize {
		t.Errorf("Cased of a long text: %v", e)
	}
	if s, e := Cased(strings.Repeat("A", 20000), false, false); len(s) != 20000 || e != api.OK {
		t.Errorf("Cased of 20000 bytes: %v", e)
	}
}

// P13.4: Cased keeps the length, changes letters alone, and is itself if it is done once more.
func TestCasedLaws(t *testing.T) {
	r := rand.New(rand.NewSource(2))
	for range 5000 {
		b := make([]byte, r.Intn(12))
		for i := range b {
			b[i] = "aZ bY9-é"[r.Intn(9)]
		}
		s, colon, at := string(b), r.Intn(2) == 0, r.Intn(2) == 0
		once, e := Cased(s, colon, at)
		twice, _ := Cased(once, colon, at)
		if e != api.OK || len(once) != len(s) || twice != once {
			t.Fatalf("Cased(%q, %v, %v) = %q, and once more %q", s, colon, at, once, twice)
		}
		for i := range s {
			if once[i] != s[i] && (once[i]|32 != s[i]|32 || !strings.ContainsRune("aZbY", rune(s[i]))) {
				t.Fatalf("Cased(%q) = %q", s, once)
			}
		}
	}
}
