package printer

import (
	"math"
	"slices"
	"strings"
	"testing"

	"commonform/api"
	"commonform/forms"
	"commonform/token"
)

// P8.1: the options, and their errors.
func TestOptions(t *testing.T) {
	if ErrReadable != 100 {
		t.Error("the code")
	}
	s := Standard("Q")
	if s.Base != 10 || s.Radix || s.Double || s.Package != "Q" || !s.Escape || s.Readable || s.Circle || !s.Array || !s.Abbrev || s.Length != -1 || s.Level != -1 || len(s.Uses) > 0 || len(s.External) > 0 || s.Table.Case != token.Upcase || len(s.Table.Entries) > 0 {
		t.Errorf("Standard = %v", s)
	}
	o := Options{Table: token.Table{Case: token.Invert, Entries: []token.Entry{{Char: '!', Kind: token.White}}}, Base: 3, Radix: true, Double: true, Package: "Q", Length: 1, Level: 2, Uses: []string{"U"}, External: []External{{"H", "N"}}}
	r := Readably(o)
	if !r.Escape || !r.Readable || !r.Circle || !r.Array || r.Abbrev || r.Length != -1 || r.Level != -1 || r.Base != 3 || !r.Radix || !r.Double || r.Package != "Q" || r.Table.Case != token.Invert || !slices.Equal(r.Table.Entries, o.Table.Entries) || !slices.Equal(r.Uses, o.Uses) || !slices.Equal(r.External, o.External) {
		t.Errorf("Readably = %v", r)
	}
	r.Table.Entries[0].Kind, r.Uses[0], r.External[0].Home = 0, "", ""
	if o.Table.Entries[0].Kind != token.White || o.Uses[0] != "U" || o.External[0].Home != "H" {
		t.Error("Readably shares memory with the options")
	}
	if r := Readably(Options{Abbrev: true}); !r.Abbrev || r.Radix || r.Double {
		t.Errorf("Readably = %v", r)
	}
	limit, long := strings.Repeat("A", 100), strings.Repeat("A", 101)
	external := func(n int) []External { return slices.Repeat([]External{{"H", "N"}}, n) }
	for i, c := range []struct {
		change func(o *Options)
		want   api.Errno
	}{
		{func(o *Options) {}, api.OK},
		{func(o *Options) { o.Base = 2 }, api.OK}, {func(o *Options) { o.Base = 36 }, api.OK}, {func(o *Options) { o.Base = 1 }, api.ErrArg}, {func(o *Options) { o.Base = 37 }, api.ErrArg}, {func(o *Options) { o.Package = "" }, api.ErrArg},
		{func(o *Options) { o.Length, o.Level = 0, 0 }, api.OK}, {func(o *Options) { o.Length = -2 }, api.ErrArg}, {func(o *Options) { o.Level = -2 }, api.ErrArg}, {func(o *Options) { o.Level = math.MinInt }, api.ErrArg}, {func(o *Options) { o.Length = math.MaxInt }, api.OK},
		{func(o *Options) { o.Uses = slices.Repeat([]string{"A"}, 64) }, api.OK}, {func(o *Options) { o.Uses = slices.Repeat([]string{"A"}, 65) }, api.ErrSize}, {func(o *Options) { o.External = external(1000) }, api.OK}, {func(o *Options) { o.External = external(1001) }, api.ErrSize},
		{func(o *Options) { o.Package = limit }, api.OK}, {func(o *Options) { o.Package = long }, api.ErrForm}, {func(o *Options) { o.Package = "\xff" }, api.ErrForm}, {func(o *Options) { o.Uses = []string{"", limit} }, api.OK}, {func(o *Options) { o.Uses = []string{"A", long} }, api.ErrForm}, {func(o *Options) { o.Uses = []string{"\xff"} }, api.ErrForm}, {func(o *Options) { o.External = []External{{"", limit}, {limit, ""}} }, api.OK}, {func(o *Options) { o.External = []External{{"A", long}} }, api.ErrForm}, {func(o *Options) { o.External = []External{{long, "A"}} }, api.ErrForm}, {func(o *Options) { o.External = []External{{"A", "A"}, {"\xff", "A"}} }, api.ErrForm}, {func(o *Options) { o.External = []External{{"A", "\xff"}} }, api.ErrForm},
		{func(o *Options) { o.Table.Entries = make([]token.Entry, 65); o.Base = 0 }, api.ErrSize}, {func(o *Options) {
			o.Table.Entries = []token.Entry{{Char: 'b', Kind: 1}, {Char: 'a', Kind: 1}}
			o.Base = 0
		}, api.ErrOrder}, {func(o *Options) { o.Level = -2; o.Uses = make([]string, 65) }, api.ErrArg}, {func(o *Options) { o.Package = long; o.External = external(1001) }, api.ErrSize},
	} {
		o := with(c.change)
		if e := Check(o); e != c.want {
			t.Errorf("Check of the options %d = %v; want %v", i, e, c.want)
		}
		if c.want == api.OK {
			continue
		}
		a, e1 := Symbol(o, api.Form{})
		b, e2 := Character(o, -1)
		d, e3 := String(o, "\xff")
		f, e4 := Print(o, api.Form{})
		g, e5 := Lines(o, nil)
		if e1 != c.want || e2 != c.want || e3 != c.want || e4 != c.want || e5 != c.want || a+b+d+f+g != "" {
			t.Errorf("the functions with the options %d: %v, %v, %v, %v, %v; want %v", i, e1, e2, e3, e4, e5, c.want)
		}
	}
}

// P8.1: Symbol.
func TestSymbol(t *testing.T) {
	external := with(func(o *Options) {
		o.Uses, o.External = nil, []External{{"COMMON-LISP", "CAR"}, {"Q", "x"}, {"P", "Y"}, {"KEYWORD", "Z"}}
	})
	bare, hex, inverted := with(func(o *Options) { o.Escape = false }), with(func(o *Options) { o.Base = 16 }), with(func(o *Options) { o.Table.Case = token.Invert })
	inKeyword := with(func(o *Options) { o.Package = "KEYWORD" })
	unused := with(func(o *Options) { o.Uses = nil })
	for _, c := range []struct {
		o    Options
		f    api.Form
		want string
	}{
		{unused, sym("FOO"), "foo"}, {unused, sym("foo"), "|foo|"}, {unused, forms.Symbol("KEYWORD", "BAR"), ":bar"}, {unused, lisp("CAR"), "common-lisp::car"}, {usual(), lisp("CAR"), "car"}, {external, lisp("CAR"), "common-lisp:car"}, {external, lisp("CDR"), "common-lisp::cdr"}, {external, forms.Symbol("Q", "x"), "q:|x|"}, {external, forms.Symbol("Q", "CAR"), "q::car"}, {external, sym("Y"), "y"}, {external, forms.Symbol("KEYWORD", "Z"), ":z"},
		{unused, forms.Symbol("", "X"), "#:x"}, {unused, forms.Symbol("", ""), "#:||"}, {unused, forms.Symbol("", "a:b"), "#:|a:b|"}, {unused, forms.Symbol("", "12"), "#:|12|"}, {hex, sym("FF"), "|FF|"}, {hex, forms.Symbol("", "FF"), "#:|FF|"}, {usual(), sym("FF"), "ff"}, {usual(), sym(""), "||"}, {usual(), forms.Symbol("KEYWORD", ""), ":||"}, {inKeyword, forms.Symbol("KEYWORD", "A"), ":a"}, {usual(), forms.Symbol("q r", "S"), "|q r|::s"},
		{bare, sym("FOO"), "foo"}, {bare, sym("foo|"), "foo|"}, {bare, lisp("CAR"), "car"}, {bare, forms.Symbol("Q", "A b"), "a b"}, {bare, forms.Symbol("", "X"), "x"}, {bare, forms.Symbol("KEYWORD", "X"), "x"}, {bare, forms.Symbol("Q", ""), ""},
		{inverted, sym("foo"), "FOO"}, {inverted, sym("Foo"), "Foo"}, {inverted, forms.Symbol("FOO", "bar"), "|FOO|::|bar|"},
	} {
		if s, e := Symbol(c.o, c.f); s != c.want || e != api.OK {
			t.Errorf("Symbol(%v) = %q, %v; want %q", c.f, s, e, c.want)
		}
		if s, e := Print(c.o, c.f); s != c.want || e != api.OK {
			t.Errorf("Print(%v) = %q, %v; want %q", c.f, s, e, c.want)
		}
	}
	noBars, noMarker := with(func(o *Options) { o.Table = table(t, '|', token.Constituent) }), with(func(o *Options) { o.Table = table(t, ':', token.White) })
	odd := sym("A")
	odd.Kids = []api.Form{num("1")}
	for _, c := range []struct {
		o    Options
		f    api.Form
		want api.Errno
	}{
		{usual(), num("1"), api.ErrType}, {usual(), str("A"), api.ErrType}, {usual(), api.Form{}, api.ErrType}, {usual(), num("x"), api.ErrType}, {usual(), odd, api.ErrForm}, {usual(), sym("\xff"), api.ErrForm}, {usual(), forms.Symbol("\xff", "A"), api.ErrForm}, {usual(), sym(longText(4001)), api.ErrSize}, {bare, sym(longText(4001)), api.ErrSize}, {usual(), forms.Symbol("Q", ""), api.ErrArg}, {noBars, sym("a"), api.ErrNone}, {noBars, forms.Symbol("", "a"), api.ErrNone}, {noMarker, forms.Symbol("Q", "A"), api.ErrNone}, {noMarker, sym("A"), api.OK}, {noMarker, forms.Symbol("", "A"), api.OK},
	} {
		if s, e := Symbol(c.o, c.f); e != c.want || e != api.OK && s != "" {
			t.Errorf("Symbol(%.40v) = %q, %v; want %v", c.f, s, e, c.want)
		}
	}
}

// P8.1 and P8.5: Character.
func TestCharacter(t *testing.T) {
	names := map[rune]string{0: "Null", 8: "Backspace", 9: "Tab", 10: "Newline", 12: "Page", 13: "Return", 32: "Space", 127: "Rubout", 1: "U0001", 11: "U000B", 27: "U001B", 31: "U001F", 128: "U0080", 0x8a: "U008A", 159: "U009F"}
	bare := with(func(o *Options) { o.Escape = false })
	for c := rune(-1); c <= 0x110000; c++ {
		if c > 0x300 && c < 0xd7f0 || c > 0xe010 && c < 0x10ffe0 {
			continue
		}
		want, named := names[c]
		switch {
		case c < 0 || c >= 0xd800 && c <= 0xdfff || c > 0x10ffff:
			s, e := Character(usual(), c)
			b, f := Character(bare, c)
			if s != "" || b != "" || e != api.ErrArg || f != api.ErrArg {
				t.Fatalf("Character(%x) = %q, %v", c, s, e)
			}
			continue
		case !named && (c < 32 || c >= 128 && c < 160):
			want = "U00" + strings.ToUpper(string("0123456789abcdef"[c/16])+string("0123456789abcdef"[c%16]))
		case !named:
			want = string(c)
		}
		if s, e := Character(usual(), c); s != `#\`+want || e != api.OK {
			t.Fatalf("Character(%x) = %q, %v; want %q", c, s, e, want)
		}
		s, e := Character(bare, c)
		p, f := Print(bare, char(string(c)))
		if s != string(c) || p != string(c) || e != api.OK || f != api.OK {
			t.Fatalf("Character(%x) without escapes = %q, %q, %v", c, s, p, e)
		}
	}
}

// P8.1 and P8.5: String.
func TestString(t *testing.T) {
	bare := with(func(o *Options) { o.Escape = false })
	odd := with(func(o *Options) { o.Table = table(t, '!', token.Single) })
	late := with(func(o *Options) { o.Table = table(t, '~', token.Single) })
	swapped := with(func(o *Options) { o.Table = table(t, '\\', token.Constituent, '~', token.Single, 'é', token.Single) })
	none := with(func(o *Options) { o.Table = table(t, '\\', token.Constituent) })
	for _, c := range []struct {
		o       Options
		s, want string
		e       api.Errno
	}{
		{usual(), "", `""`, api.OK}, {usual(), "a b|é\n", "\"a b|é\n\"", api.OK}, {usual(), `a"b`, `"a\"b"`, api.OK}, {usual(), `\`, `"\\"`, api.OK}, {usual(), `""`, `"\"\""`, api.OK},
		{odd, `a!"\`, `"a!!!"!\"`, api.OK}, {late, `~"\`, `"\~\"\\"`, api.OK}, {swapped, `\~é"`, `"\~~~é~""`, api.OK}, {none, `a\`, `"a\"`, api.OK}, {none, `a"`, "", ErrReadable}, {none, "\xff\"", "", api.ErrForm}, {usual(), "\xff", "", api.ErrForm}, {bare, "\xff", "", api.ErrForm}, {bare, `a"\`, `a"\`, api.OK}, {with(func(o *Options) { o.Table = none.Table; o.Escape = false }), `a"`, `a"`, api.OK},
		{usual(), longText(99998), `"` + longText(99998) + `"`, api.OK}, {usual(), longText(99999), "", api.ErrLarge}, {bare, longText(100000), longText(100000), api.OK}, {bare, longText(100001), "", api.ErrLarge}, {none, longText(100001) + `"`, "", ErrReadable},
	} {
		if s, e := String(c.o, c.s); s != c.want || e != c.e {
			t.Errorf("String(%.20q) = %.20q, %v; want %.20q, %v", c.s, s, e, c.want, c.e)
		}
		if s, e := Print(c.o, str(c.s)); s != c.want || e != c.e {
			t.Errorf("Print of the string %.20q = %.20q, %v; want %.20q, %v", c.s, s, e, c.want, c.e)
		}
	}
}
