package token

import (
	"slices"
	"strings"
	"testing"
	"unicode/utf8"

	"commonform/api"
)

// P6.1: what the functions with a readtable, a text and a place return first.
func TestPlaces(t *testing.T) {
	long := strings.Repeat("a", api.MaxSource)
	for _, c := range []struct {
		x    Table
		s    string
		at   int
		want api.Errno
	}{
		{Table{}, long, 0, api.OK}, {Table{}, long + "a", 0, api.ErrSize}, {Table{}, "\xff", 0, api.ErrForm}, {Table{}, "a\xff", 0, api.ErrForm}, {Table{}, "\xed\xa0\x80", 0, api.ErrForm}, {Table{}, long + "\xff", 0, api.ErrSize},
		{Table{}, "ab", -1, api.ErrArg}, {Table{}, "ab", 3, api.ErrArg}, {Table{}, "é", 1, api.ErrArg}, {Table{}, "aéb", 2, api.ErrArg}, {Table{}, "aéb", 3, api.OK}, {Table{}, "\xff", 9, api.ErrForm}, {Table{}, long + "a", -1, api.ErrSize},
		{Table{Case: 4}, long + "a", 9, api.ErrArg}, {Table{Entries: []Entry{{'b', White}, {'a', White}}}, "\xff", -1, api.ErrOrder},
	} {
		if at, e := Skip(c.x, c.s, c.at); e != c.want || e != api.OK && at != 0 {
			t.Errorf("Skip(%v, %.9q, %d) = %d, %v; want %v", c.x, c.s, c.at, at, e, c.want)
		}
		if x, end, e := Next(c.x, c.s, c.at); e != c.want || e != api.OK && (end != 0 || !isNothing(x)) {
			t.Errorf("Next(%v, %.9q, %d) = %v, %d, %v; want %v", c.x, c.s, c.at, x, end, e, c.want)
		}
		if place, e := Where(c.s, c.at); Check(c.x) == api.OK && (e != c.want || e != api.OK && place != Place{}) {
			t.Errorf("Where(%.9q, %d) = %v, %v; want %v", c.s, c.at, place, e, c.want)
		}
		if x, e := Plain(c.s); Check(c.x) == api.OK && c.want != api.ErrArg && (e != c.want || e != api.OK && !isNothing(x)) {
			t.Errorf("Plain(%.9q) = %v, %v; want %v", c.s, x, e, c.want)
		}
	}
}

// P6.1: Skip.
func TestSkip(t *testing.T) {
	dollar := table(t, Upcase, '$', White, ' ', Constituent)
	for _, c := range []struct {
		x        Table
		s        string
		at, want int
	}{
		{Table{}, "", 0, 0}, {Table{}, " \t\n\f\r a", 0, 6}, {Table{}, "a ", 0, 0}, {Table{}, "a  ", 1, 3}, {Table{}, " ;", 0, 1}, {Table{}, " \x01", 0, 1}, {Table{}, " é", 0, 1},
		{dollar, "$$ ", 0, 2}, {dollar, " $", 0, 0},
	} {
		if at, e := Skip(c.x, c.s, c.at); at != c.want || e != api.OK {
			t.Errorf("Skip(%v, %q, %d) = %d, %v; want %d", c.x, c.s, c.at, at, e, c.want)
		}
	}
}

// P6.1: Next.
func TestNext(t *testing.T) {
	odd := table(t, Upcase, '$', White, '!', Single, '?', Multiple, '%', Terminating, '&', Nonterminating, '~', Invalid, '(', Constituent, '|', Constituent)
	for _, c := range []struct {
		x       Table
		s       string
		at      int
		text    string
		escaped string // an x for each escaped character
		end     int
		escapes bool
	}{
		{Table{}, "foo(bar)", 0, "FOO", "...", 3, false},
		{Table{}, "foo(bar)", 4, "BAR", "...", 7, false},
		{Table{}, `a\(b c`, 0, "A(B", ".x.", 4, true},
		{Table{}, "|a b|c", 0, "a bC", "xxx.", 6, true},
		{Table{}, "||", 0, "", "", 2, true},
		{Table{}, "a||b", 0, "AB", "..", 4, true},
		{Table{}, `|a\|b\\c\d|e`, 0, `a|b\cdE`, "xxxxxx.", 12, true},
		{Table{}, "a|b|c|d|e", 0, "AbCdE", ".x.x.", 9, true},
		{Table{}, "a#b'c", 0, "A#B", "...", 3, false},
		{Table{}, "|\x01\n;\"|\x09", 0, "\x01\n;\"", "xxxx", 6, true},
		{Table{}, "\\\x01b", 0, "\x01B", "x.", 3, true},
		{Table{}, "\\\\", 0, "\\", "x", 2, true},
		{Table{}, "éß€|É|x", 0, "éß€ÉX", "...x.", 12, true},
		{odd, "a(|b$c", 0, "A(|B", "....", 4, false},
		{odd, "a!$?%?&b%", 0, "A$%&B", ".xx..", 8, true},
		{odd, "?a!?b?", 0, "a?b", "xxx", 6, true},
	} {
		x, end, e := Next(c.x, c.s, c.at)
		escaped := marks(x.Escaped)
		if string(x.Chars) != c.text || escaped != c.escaped || end != c.end || x.Escapes != c.escapes || e != api.OK {
			t.Errorf("Next(%q, %d) = %q, %s, %d, %v, %v; want %q, %s, %d, %v", c.s, c.at, string(x.Chars), escaped, end, x.Escapes, e, c.text, c.escaped, c.end, c.escapes)
		}
	}
	for s, want := range map[string]api.Errno{
		"": api.ErrNone, " a": api.ErrArg, "\na": api.ErrArg, "(": api.ErrArg, "#a": api.ErrArg, ",": api.ErrArg,
		`\`: api.ErrEnd, `a\`: api.ErrEnd, "a|b": api.ErrEnd, "|": api.ErrEnd, `|a\`: api.ErrEnd, `|a\|`: api.ErrEnd, `\||`: api.ErrEnd,
		"\x01": ErrInvalid, "a\x01": ErrInvalid, "a\x7f|": ErrInvalid, "|a\x01": api.ErrEnd, "|a|\x08": ErrInvalid,
	} {
		if x, end, e := Next(Table{}, s, 0); e != want || end != 0 || !isNothing(x) {
			t.Errorf("Next(%q) = %v, %d, %v; want %v", s, x, end, e, want)
		}
	}
	if _, _, e := Next(odd, "~", 0); e != ErrInvalid {
		t.Errorf("Next of an invalid character: %v", e)
	}
	if x, end, e := Next(odd, "\x02", 0); e != ErrInvalid || end != 0 || !isNothing(x) {
		t.Errorf("Next of a control character: %v", e)
	}
}

func marks(l []bool) string {
	var b strings.Builder
	for _, is := range l {
		if is {
			b.WriteByte('x')
		} else {
			b.WriteByte('.')
		}
	}
	return b.String()
}

// P6.1 and P6.4: the case of what was not escaped.
func TestCase(t *testing.T) {
	for _, c := range []struct {
		s    string
		want [4]string
	}{
		{"foo", [4]string{"FOO", "foo", "foo", "FOO"}},
		{"FOO", [4]string{"FOO", "foo", "FOO", "foo"}},
		{"Foo", [4]string{"FOO", "foo", "Foo", "Foo"}},
		{"f1-o", [4]string{"F1-O", "f1-o", "f1-o", "F1-O"}},
		{"éa", [4]string{"éA", "éa", "éa", "éA"}},
		{"É", [4]string{"É", "É", "É", "É"}},
		{`fo\O`, [4]string{"FOO", "foO", "foO", "FOO"}},
		{"FO|o|", [4]string{"FOo", "foo", "FOo", "foo"}},
		{"Fo|o|", [4]string{"FOo", "foo", "Foo", "Foo"}},
		{"|Foo|", [4]string{"Foo", "Foo", "Foo", "Foo"}},
		{"@[{", [4]string{"@[{", "@[{", "@[{", "@[{"}},
		{"z{Z", [4]string{"Z{Z", "z{z", "z{Z", "z{Z"}},
	} {
		for _, mode := range modes() {
			x, _, e := Next(Table{Case: mode}, c.s, 0)
			if Text(x) != c.want[mode] || e != api.OK {
				t.Errorf("Next(%q) in the case %d = %q, %v; want %q", c.s, mode, Text(x), e, c.want[mode])
			}
		}
	}
}

// wrongTokens are tokens that are not right.
func wrongTokens() []Token {
	many := Token{Chars: slices.Repeat([]rune{'.'}, api.MaxSource+1), Escaped: make([]bool, api.MaxSource+1)}
	return []Token{
		{Chars: []rune{'.'}}, {Escaped: []bool{false}}, {Chars: []rune{'.'}, Escaped: []bool{true}}, {Chars: []rune{'.', '.'}, Escaped: []bool{false}, Escapes: true},
		{Chars: []rune{0xd800}, Escaped: []bool{false}}, {Chars: []rune{-1}, Escaped: []bool{false}}, {Chars: []rune{0x110000}, Escaped: []bool{true}, Escapes: true}, many,
	}
}

// P6.1: Plain, Text and Dots.
func TestTexts(t *testing.T) {
	for _, s := range []string{"", "a", "a|b\\ é\x01", "...", strings.Repeat(".", api.MaxSource)} {
		x, e := Plain(s)
		if e != api.OK || Text(x) != s || len(x.Chars) != utf8.RuneCountInString(s) || len(x.Escaped) != len(x.Chars) || slices.Contains(x.Escaped, true) || x.Escapes {
			t.Errorf("Plain(%.9q) = %v, %v", s, x, e)
		}
	}
	for _, x := range wrongTokens() {
		if Text(x) != "" || Dots(x) != 0 {
			t.Errorf("Text of a wrong token = %q, Dots %d", Text(x), Dots(x))
		}
	}
	for s, want := range map[string]int{".": 1, "...": 3, "..a": 0, "a": 0, `\.`: 0, ".||": 0, "||": 0, `.\.`: 0, "..:": 0} {
		x, _, e := Next(Table{}, s, 0)
		if e != api.OK || Dots(x) != want {
			t.Errorf("Dots of %q = %d, %v; want %d", s, Dots(x), e, want)
		}
	}
	if Dots(Token{}) != 0 || Dots(Token{Chars: []rune{'.'}, Escaped: []bool{true}, Escapes: true}) != 0 {
		t.Error("Dots")
	}
}

// P6.3.
func TestEnds(t *testing.T) {
	eachChance(t, func(x Table, r chance) {
		s := r.text(12)
		for at := range s {
			k, end, e := Next(x, s, at)
			if e != api.OK {
				continue
			}
			took := s[at:end]
			if alone, n, e := Next(x, took, 0); e != api.OK || n != len(took) || !sameToken(alone, k) {
				t.Fatalf("Next(%v, %q, %d) took %q, and reads %v, %v of this; want %v", x, s, at, took, alone, e, k)
			}
			for _, white := range whites(x) {
				ahead, behind := r.text(5), string(white)+r.text(5)
				if again, n, e := Next(x, ahead+took+behind, len(ahead)); e != api.OK || n != len(ahead+took) || !sameToken(again, k) {
					t.Fatalf("Next(%v, %q) = %v, %d, %v; want %v", x, ahead+took+behind, again, n, e, k)
				}
			}
			if !k.Escapes && len(k.Chars) != utf8.RuneCountInString(took) {
				t.Fatalf("Next(%v, %q) has %d characters", x, took, len(k.Chars))
			}
		}
	})
}

// P6.4.
func TestCaseLaws(t *testing.T) {
	eachChance(t, func(x Table, r chance) {
		s := r.text(9)
		k, end, e := Next(x, s, 0)
		if e != api.OK {
			return
		}
		for i, c := range k.Chars {
			if !k.Escaped[i] && (x.Case == Upcase && isSmall(c) || x.Case == Downcase && isGreat(c)) {
				t.Fatalf("Next(%v, %q) = %q", x, s, string(k.Chars))
			}
		}
		if k.Escapes {
			return
		}
		if x.Case == Preserve && Text(k) != s[:end] {
			t.Fatalf("Next(%v, %q) = %q", x, s, Text(k))
		}
		if x.Case == Invert && len(x.Entries) == 0 {
			back, n, e := Next(x, Text(k), 0)
			if e != api.OK || n != end || Text(back) != s[:end] {
				t.Fatalf("Next(%v, %q) = %q, and of this %q", x, s, Text(k), Text(back))
			}
		}
	})
}

// P6.1 and P6.7: Where.
func TestWhere(t *testing.T) {
	for _, c := range []struct {
		s    string
		at   int
		want Place
	}{
		{"", 0, Place{1, 1}}, {"ab\ncde", 0, Place{1, 1}}, {"ab\ncde", 2, Place{1, 3}}, {"ab\ncde", 3, Place{2, 1}}, {"ab\ncde", 4, Place{2, 2}}, {"ab\ncde", 6, Place{2, 4}},
		{"\n\n", 1, Place{2, 1}}, {"\n\n", 2, Place{3, 1}}, {"éé\n€x", 4, Place{1, 3}}, {"éé\n€x", 8, Place{2, 2}}, {"a\r\nb", 3, Place{2, 1}}, {"a\r\nb", 2, Place{1, 3}},
	} {
		if p, e := Where(c.s, c.at); p != c.want || e != api.OK {
			t.Errorf("Where(%q, %d) = %v, %v; want %v", c.s, c.at, p, e, c.want)
		}
	}
	r := newChance()
	for range 500 {
		s := r.text(20)
		last := Place{1, 0}
		for at, c := range s {
			p, e := Where(s, at)
			if e != api.OK || p.Line < last.Line || p.Line == last.Line && p.Column <= last.Column {
				t.Fatalf("Where(%q, %d) = %v, %v behind %v", s, at, p, e, last)
			}
			behind, _ := Where(s, at+utf8.RuneLen(c))
			if c == '\n' && behind != (Place{p.Line + 1, 1}) || c != '\n' && behind != (Place{p.Line, p.Column + 1}) {
				t.Fatalf("Where of %q = %v, and %v behind %q", s, p, behind, c)
			}
			last = p
		}
	}
}
