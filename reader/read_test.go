package reader

import (
	"math"
	"slices"
	"strings"
	"testing"

	"commonform/api"
	"commonform/forms"
	"commonform/token"
)

// P7.1: the codes.
func TestConstants(t *testing.T) {
	if ErrClose != 90 || ErrComma != 91 || ErrDot != 92 || ErrHash != 93 || ErrMacro != 94 || ErrChar != 95 || ErrShape != 96 {
		t.Error("codes")
	}
}

// P7.1: Standard, Check, and what all functions return first.
func TestOptions(t *testing.T) {
	s := Standard("Q")
	if s.Base != 10 || s.Double || s.Package != "Q" || len(s.Features) > 0 || s.Table.Case != token.Upcase || len(s.Table.Entries) > 0 {
		t.Errorf("Standard = %v", s)
	}
	long, limit := strings.Repeat("A", 101), strings.Repeat("A", 100)
	features := func(l ...string) func(*Options) { return func(o *Options) { o.Features = l } }
	for i, c := range []struct {
		change func(o *Options)
		want   api.Errno
	}{
		{func(o *Options) {}, api.OK},
		{func(o *Options) { o.Base = 2 }, api.OK}, {func(o *Options) { o.Base = 36 }, api.OK}, {func(o *Options) { o.Base = 1 }, api.ErrArg}, {func(o *Options) { o.Base = 37 }, api.ErrArg},
		{func(o *Options) { o.Package = "" }, api.ErrArg}, {func(o *Options) { o.Package = limit }, api.OK}, {func(o *Options) { o.Package = long }, api.ErrSize}, {func(o *Options) { o.Package = "\xff" }, api.ErrForm},
		{features(slices.Repeat([]string{"A"}, 64)...), api.OK}, {features(slices.Repeat([]string{"A"}, 65)...), api.ErrSize}, {features("A", long), api.ErrSize}, {features(limit), api.OK}, {features("A", ""), api.ErrArg}, {features("", long), api.ErrArg}, {features("A\xff"), api.ErrForm}, {features("\xff", ""), api.ErrForm},
		{func(o *Options) { o.Table.Case = 4; o.Base = 0; o.Package = long }, api.ErrArg}, {func(o *Options) { o.Table.Entries = make([]token.Entry, 65); o.Base = 0 }, api.ErrSize}, {func(o *Options) { o.Base = 0; o.Package = long }, api.ErrArg},
		{func(o *Options) { o.Package = ""; o.Features = []string{long} }, api.ErrArg}, {func(o *Options) { o.Package = long; o.Features = []string{""} }, api.ErrSize}, {func(o *Options) { o.Package = "\xff"; o.Features = []string{""} }, api.ErrArg},
	} {
		o := Standard("P")
		c.change(&o)
		if e := Check(o); e != c.want {
			t.Errorf("Check of the options %d = %v; want %v", i, e, c.want)
		}
		if c.want == api.OK {
			continue
		}
		end, place, e := Blank(o, "\xff", 9)
		r, at, f := Read(o, "\xff", 9)
		l, all, g := All(o, "\xff")
		one, only, h := One(o, "\xff")
		if e != c.want || f != c.want || g != c.want || h != c.want || end != 0 || place != 0 || at != 0 || all != 0 || only != 0 || len(l) > 0 || !isEmpty(r) || !isEmpty(one) {
			t.Errorf("the functions with the options %d: %v, %v, %v, %v; want %v", i, e, f, g, h, c.want)
		}
	}
}

// P7.1: the errors of texts and of places.
func TestTextErrors(t *testing.T) {
	long := strings.Repeat(" ", api.MaxSource)
	for _, c := range []struct {
		s    string
		at   int
		want api.Errno
	}{
		{long + " ", 0, api.ErrSize}, {"a\xff", 0, api.ErrForm}, {long + "\xff", 7777, api.ErrSize}, {"\xff", 7, api.ErrForm}, {"a", -1, api.ErrArg}, {"a", 2, api.ErrArg}, {"é", 1, api.ErrArg}, {"a", math.MinInt, api.ErrArg}, {"a", math.MaxInt, api.ErrArg},
	} {
		end, place, e := Blank(usual(), c.s, c.at)
		r, at, f := Read(usual(), c.s, c.at)
		if e != c.want || f != c.want || end != 0 || place != 0 || at != 0 || !isEmpty(r) {
			t.Errorf("Blank and Read of %.9q at %d: %v, %v; want %v", c.s, c.at, e, f, c.want)
		}
		l, all, g := All(usual(), c.s)
		one, only, h := One(usual(), c.s)
		if c.want != api.ErrArg && (g != c.want || h != c.want || all != 0 || only != 0 || len(l) > 0 || !isEmpty(one)) {
			t.Errorf("All and One of %.9q: %v, %v; want %v", c.s, g, h, c.want)
		}
	}
	if _, at, e := Read(usual(), long, 0); at != api.MaxSource || e != api.ErrNone {
		t.Errorf("Read of spaces: %d, %v", at, e)
	}
}

// P7.1: Blank.
func TestBlank(t *testing.T) {
	for _, c := range []struct {
		o                Options
		s                string
		at, want, failed int
		e                api.Errno
	}{
		{usual(), "", 0, 0, 0, api.OK}, {usual(), " \n a", 0, 3, 0, api.OK}, {usual(), "a  ", 0, 0, 0, api.OK}, {usual(), "a  ", 1, 3, 0, api.OK}, {usual(), ";x", 0, 2, 0, api.OK}, {usual(), ";x\n;\n\na", 0, 6, 0, api.OK},
		{usual(), "#|a|#b", 0, 5, 0, api.OK}, {usual(), "#|a#|b|#|#;", 0, 11, 0, api.OK}, {usual(), "#||#", 0, 4, 0, api.OK}, {usual(), "#|#||#|#", 0, 8, 0, api.OK}, {usual(), "#|;|#\n)", 0, 6, 0, api.OK}, {usual(), " #a", 0, 1, 0, api.OK}, {usual(), "#1|a|#", 0, 0, 0, api.OK}, {usual(), "\x01", 0, 0, 0, api.OK}, {usual(), "#+a b", 0, 0, 0, api.OK}, {usual(), "é", 2, 2, 0, api.OK},
		{usual(), "#|a", 0, 0, 3, api.ErrEnd}, {usual(), " #|a#|b|#", 0, 0, 9, api.ErrEnd}, {usual(), "#|", 0, 0, 2, api.ErrEnd}, {usual(), "#|#", 0, 0, 3, api.ErrEnd},
		{with(t, ';', token.Constituent), ";a", 0, 0, 0, api.OK}, {with(t, '#', token.Constituent), "#|a|#", 0, 0, 0, api.OK}, {with(t, '#', token.Terminating, ';', token.Nonterminating, '|', token.White), "#|a|#;b\nc", 0, 8, 0, api.OK}, {with(t, 'a', token.White, ' ', token.Constituent), "aa b", 0, 2, 0, api.OK},
		{with(t, '\n', token.Constituent), ";a\nb", 0, 2, 0, api.OK},
	} {
		if end, place, e := Blank(c.o, c.s, c.at); end != c.want || place != c.failed || e != c.e {
			t.Errorf("Blank(%q, %d) = %d, %d, %v; want %d, %d, %v", c.s, c.at, end, place, e, c.want, c.failed, c.e)
		}
	}
}

// P7.1: the forms of texts, from their first character to their last one.
func TestForms(t *testing.T) {
	a, b, one, two, three := sym("A"), sym("B"), num("1"), num("2"), num("3")
	for s, want := range map[string]api.Form{
		"a": a, "|a|": sym("a"), `\1`: sym("1"), "1+": sym("1+"), "+": sym("+"), "q:x": forms.Symbol("Q", "X"), "q::|x|": forms.Symbol("Q", "x"), ":k": key("K"), ":||": key(""), "nil": sym("NIL"), "||": sym(""), "a.": sym("A."), "a#b": sym("A#B"), "é": sym("é"),
		"12": num("12"), "12.": num("12"), "-0": num("0"), "4/6": node(api.FormRatio, "2/3"), "1.5": node(api.FormSingle, "3fc00000"), "1d0": node(api.FormDouble, "3ff0000000000000"), "1e2": node(api.FormSingle, "42c80000"),
		`""`: str(""), `"a b;"`: str("a b;"), `"a\"b\\c\d"`: str(`a"b\cd`), "\"\n|é\"": str("\n|é"),
		"'a": call("QUOTE", a), "' \n a": call("QUOTE", a), "'()": call("QUOTE", forms.Nil()), "''a": call("QUOTE", call("QUOTE", a)), "#'a": call("FUNCTION", a), "#'(a)": call("FUNCTION", list(a)),
		"()": forms.Nil(), "( )": forms.Nil(), "(a)": list(a), "(a b)": list(a, b), "((a) b)": list(list(a), b), "(a . b)": cons(a, b), "(a .(b))": list(a, b), "(a . (b . 1))": cons(a, b, one), "(a . ())": list(a), "(a . nil)": cons(a, sym("NIL")), "(a .b)": list(a, sym(".B")), `(a \. b)`: list(a, sym("."), b), "(a . b ;x\n#|y|#)": cons(a, b), "(a .\"b\")": cons(a, str("b")), "(a.b)": list(sym("A.B")), "(a #|x|# ;y\n)": list(a), "(#|x|# a #|y|# . #|z|# b)": cons(a, b),
		"`a": back("BACKQUOTE", a), "`,a": back("BACKQUOTE", back("COMMA", a)), "`(a ,b ,@b)": back("BACKQUOTE", list(a, back("COMMA", b), back("SPLICE", b))), "`,@a": back("BACKQUOTE", back("SPLICE", a)), "``,,a": back("BACKQUOTE", back("BACKQUOTE", back("COMMA", back("COMMA", a)))), "`(a . ,b)": back("BACKQUOTE", cons(a, forms.Symbol("READER", "COMMA"), b, forms.Nil())), "`, @a": back("BACKQUOTE", back("COMMA", sym("@A"))), "`,`,a": back("BACKQUOTE", back("COMMA", back("BACKQUOTE", back("COMMA", a)))), "`#(a ,b)": back("BACKQUOTE", vec(a, back("COMMA", b))),
		"#(a b)": vec(a, b), "#()": vec(), "#0()": vec(), "#2(a b)": vec(a, b), "#3(1 2)": vec(one, two, two), "#2((a))": vec(list(a), list(a)), "#1(#1=(a))": vec(lab("1", list(a))), "#02(1)": vec(one, one), "(#1=a #3(b #1#))": list(lab("1", a), vec(b, ref("1"), ref("1"))), "#3(#1=a b)": vec(lab("1", a), b, b), "#2(#+huge #1=a b)": vec(b, b),
		`#\a`: char("a"), `#\A`: char("A"), `#\ `: char(" "), `#\(`: char("("), `#\\`: char(`\`), `#\|`: char("|"), `#\"`: char(`"`), `#\é`: char("é"), `#\Space`: char(" "), `#\sPACE`: char(" "), `#\newline`: char("\n"), `#\u0041`: char("A"), `#\U10FFFF`: char("\U0010ffff"), `#\s\pace`: char(" "), `#\s|PACE|`: char(" "), "#\\\x01": char("\x01"), `#\a||`: char("a"), `#\#`: char("#"), `#\;`: char(";"),
		"#*": node(api.FormBits, ""), "#*0110": node(api.FormBits, "0110"), "#5*10": node(api.FormBits, "10000"), "#0*": node(api.FormBits, ""), "#2*10": node(api.FormBits, "10"), "#3*1": node(api.FormBits, "111"), "#2*0": node(api.FormBits, "00"),
		"#:g": forms.Symbol("", "G"), "#:12": forms.Symbol("", "12"), "#:.": forms.Symbol("", "."), "#:": forms.Symbol("", ""), `#:\:`: forms.Symbol("", ":"), "#:|a b|": forms.Symbol("", "a b"),
		"#b101": num("5"), "#o17": num("15"), "#xff": num("255"), "#XFF": num("255"), "#x-F/a": node(api.FormRatio, "-3/2"), "#36rZ": num("35"), "#2r11": num("3"), "#b10.": num("10"),
		"#c(1 2)": node(api.FormComplex, "", one, two), "#C(1 0)": one, "#c (1 2.0)": node(api.FormComplex, "", node(api.FormSingle, "3f800000"), node(api.FormSingle, "40000000")), "#c(1 #|x|# #b10)": node(api.FormComplex, "", one, two),
		"#0a1": node(api.FormArray, "", one), "#0a(a)": node(api.FormArray, "", list(a)), "#1a(1 2)": vec(one, two), "#2A((1 2) (3 3))": node(api.FormArray, "2 2", one, two, three, three), "#2a(#*10 \"ab\")": node(api.FormArray, "2 2", num("1"), num("0"), char("a"), char("b")), "#2a()": node(api.FormArray, "0 0"), "#0a#1=a": node(api.FormArray, "", lab("1", a)), "#2a((#1=a #1#))": node(api.FormArray, "1 2", lab("1", a), ref("1")),
		"#|x|#a": a, ";x\na": a, "#+small a": a, "#-small b a": a, "#+huge b #+huge b a": a, "#+(and small (not huge)) a": a, "#+(or) b a": a, "#-(or) a": a, "#+small #-small b a": a, "(#+huge a)": forms.Nil(), "(a #+huge b . 1)": cons(a, one), "(a . #+huge b 1)": cons(a, one), "(1 #-small 2 #+small 3)": list(one, three), "#+small;x\na": a, "#+|SMALL| a": a,
		"#1=a": lab("1", a), "#01=(a . #1#)": lab("1", cons(a, ref("1"))), "#999=(#999#)": lab("999", list(ref("999"))), "(#1=(a) #1# #2=#(#1#) #2#)": list(lab("1", list(a)), ref("1"), lab("2", vec(ref("1"))), ref("2")), "(a . #1=(b #1#))": cons(a, lab("1", list(b, ref("1")))), "(#+huge #1=a #1=b)": list(lab("1", b)), "(#1=a #+huge #1# #1#)": list(lab("1", a), ref("1")), "#1=#+huge #1# a": lab("1", a),
	} {
		r, at, e := One(usual(), s)
		begin := strings.LastIndex(s, "a")
		switch {
		case strings.HasPrefix(s, "#|"), strings.HasPrefix(s, ";"), strings.HasPrefix(s, "#-small"), strings.HasPrefix(s, "#+huge"), strings.HasPrefix(s, "#+(or)"):
		default:
			begin = 0
		}
		if e != api.OK || at != 0 || show(r.Form) != show(want) || r.From != begin || r.To != len(s) {
			t.Errorf("One(%q) = %s, %d, %v, from %d to %d; want %s", s, show(r.Form), at, e, r.From, r.To, show(want))
		}
		if e := forms.Check(want); e != api.OK {
			t.Errorf("the test wants a wrong form %s: %v", show(want), e)
		}
	}
}

// P7.1: options that change what is read.
func TestOptionForms(t *testing.T) {
	base, double, inverted, down := usual(), usual(), usual(), usual()
	base.Base, double.Double, inverted.Table.Case, down.Table.Case = 16, true, token.Invert, token.Downcase
	up := usual()
	up.Package = "KEYWORD"
	for _, c := range []struct {
		o    Options
		s    string
		want api.Form
	}{
		{base, "ff", num("255")}, {base, "10.", num("10")}, {base, "#b10", num("2")}, {base, "#*10", node(api.FormBits, "10")}, {base, "#2(1)", vec(num("1"), num("1"))}, {base, "fg", sym("FG")},
		{double, "1.5", node(api.FormDouble, "3ff8000000000000")}, {double, "1.5f0", node(api.FormSingle, "3fc00000")},
		{inverted, "(foo FOO Foo)", list(sym("FOO"), sym("foo"), sym("Foo"))}, {inverted, "#+small 1", num("1")}, {inverted, "#+SMALL 1 2", num("2")}, {inverted, `#\Space`, char(" ")}, {inverted, "#:Foo", forms.Symbol("", "Foo")},
		{down, "(FOO q:R)", list(sym("foo"), forms.Symbol("q", "r"))}, {down, `#\Ab`[:3], char("A")}, {down, "#XFF", num("255")}, {down, "1E2", node(api.FormSingle, "42c80000")},
		{up, "a", key("A")},
		{with(t, '!', token.Single, '?', token.Multiple), `(a!)b ?c d? "!"")`, list(sym("A)B"), sym("c d"), str(`"`))},
		{with(t, '\\', token.Constituent), `("a\" b\c)`, list(str(`a\`), sym(`B\C`))},
		{with(t, '\\', token.Constituent), `#\a`, char("a")}, {with(t, '|', token.White), "#|a|#b", sym("B")},
		{with(t, '$', token.White), "(a$b)", list(sym("A"), sym("B"))}, {with(t, ' ', token.Constituent), "(a b)", list(sym("A B"))},
		{with(t, '\'', token.Constituent), "'a", sym("'A")}, {with(t, '\'', token.Nonterminating), "(a'b 'c)", list(sym("A'B"), call("QUOTE", sym("C")))}, {with(t, ')', token.Constituent, ']', token.Terminating), ")a", sym(")A")}, {with(t, ')', token.Nonterminating), "(a )", list(sym("A"))}, {with(t, '#', token.Terminating), "(a#b101)", list(sym("A"), num("5"))},
		{with(t, '@', token.White), "`,@a", back("BACKQUOTE", back("SPLICE", sym("A")))}, {with(t, '.', token.Nonterminating), `#\.`, char(".")},
		{with(t, '0', token.Nonterminating, '0'+1, token.Constituent), `#\u0041`, char("A")},
	} {
		if r, at, e := One(c.o, c.s); e != api.OK || at != 0 || show(r.Form) != show(c.want) {
			t.Errorf("One(%q) = %s, %d, %v; want %s", c.s, show(r.Form), at, e, show(c.want))
		}
	}
	// the name of a character goes on with a Nonterminating character, for which no entry is free
	full := usual()
	for c := 'A'; len(full.Table.Entries) < token.MaxEntries; c++ {
		if token.Standard(c) != token.Nonterminating {
			full.Table.Entries = append(full.Table.Entries, token.Entry{Char: c, Kind: token.Nonterminating})
		}
	}
	if r, _, e := One(full, `#\SPACE`); e != api.OK || r.Form.Text != " " {
		t.Errorf("One with many entries = %s, %v", show(r.Form), e)
	}
	if _, at, e := One(full, ` #\x#`); e != ErrChar || at != 1 {
		t.Errorf("One of a character with # = %d, %v", at, e)
	}
}

// P7.1: errors and their places.
func TestErrors(t *testing.T) {
	deep := func(n int) string { return strings.Repeat("(", n) }
	for _, c := range []struct {
		s  string
		at int
		e  api.Errno
	}{
		{"", 0, api.ErrNone}, {"  ", 2, api.ErrNone}, {" ;x", 3, api.ErrNone}, {"#|a|#", 5, api.ErrNone}, {"#+huge a", 8, api.ErrNone}, {"#-small a ;b", 12, api.ErrNone},
		{"(", 1, api.ErrEnd}, {"(a b", 4, api.ErrEnd}, {"(a . b", 6, api.ErrEnd}, {"(a .", 4, api.ErrEnd}, {"(a . ", 5, api.ErrEnd}, {`"a`, 2, api.ErrEnd}, {`"a\`, 3, api.ErrEnd}, {`"a\"`, 4, api.ErrEnd}, {"'", 1, api.ErrEnd}, {"' ;", 3, api.ErrEnd}, {"`", 1, api.ErrEnd}, {"`,", 2, api.ErrEnd}, {"`,@", 3, api.ErrEnd}, {"#", 1, api.ErrEnd}, {"#12", 3, api.ErrEnd}, {`#\`, 2, api.ErrEnd}, {"#(a", 3, api.ErrEnd}, {"#'", 2, api.ErrEnd}, {"#c", 2, api.ErrEnd}, {"#2a", 3, api.ErrEnd}, {"#1=", 3, api.ErrEnd}, {"#+", 2, api.ErrEnd}, {"#+small", 7, api.ErrEnd}, {"#+huge", 6, api.ErrEnd}, {"#+huge a '", 10, api.ErrEnd}, {"#|a", 3, api.ErrEnd}, {"(a #|b", 6, api.ErrEnd}, {`a\`, 2, api.ErrEnd}, {"(a |b", 5, api.ErrEnd}, {`#\a|b`, 5, api.ErrEnd}, {"#:|a", 4, api.ErrEnd}, {`#x\`, 3, api.ErrEnd}, {"(a ;b)", 6, api.ErrEnd}, {"((a)", 4, api.ErrEnd}, {"#+huge", 6, api.ErrEnd}, {"(#+huge a", 9, api.ErrEnd},
		{")", 0, ErrClose}, {" )", 1, ErrClose}, {"')", 1, ErrClose}, {"(')", 2, ErrClose}, {"(a . )", 5, ErrClose}, {"#+small)", 7, ErrClose}, {"#+)", 2, ErrClose}, {"#1=)", 3, ErrClose}, {"#+huge a)", 8, ErrClose},
		{",x", 0, ErrComma}, {"(a ,x)", 3, ErrComma}, {"`,,x", 2, ErrComma}, {"`(,a ,,@b)", 6, ErrComma}, {"`(,(,a))", 4, ErrComma}, {",", 0, ErrComma},
		{"(. a)", 1, ErrDot}, {"( .)", 2, ErrDot}, {"(a . b c)", 3, ErrDot}, {"(a . b . c)", 3, ErrDot}, {"(a . b #+huge c)", 3, ErrDot}, {"#(a . b)", 4, ErrDot}, {"#(. b)", 2, ErrDot}, {"(#+huge a . b)", 10, ErrDot}, {"(a . b '", 3, ErrDot},
		{".", 0, token.ErrDots}, {"..", 0, token.ErrDots}, {"(a '.)", 4, token.ErrDots}, {"(a ..)", 3, token.ErrDots}, {"(a . .)", 5, token.ErrDots}, {"(a #+huge . b)", 10, token.ErrDots},
		{"\x01", 0, token.ErrInvalid}, {"a\x01", 0, token.ErrInvalid}, {"(a b\x01)", 3, token.ErrInvalid}, {" '\x7f", 2, token.ErrInvalid}, {"(#xa\x01)", 1, token.ErrInvalid}, {"(#\\ab\x01)", 1, token.ErrInvalid},
		{"a:b:c", 0, token.ErrMarker}, {"(x a:)", 3, token.ErrMarker}, {":", 0, token.ErrMarker}, {"(#:a:b)", 1, token.ErrMarker}, {"#::a", 0, token.ErrMarker},
		{"1/0", 0, api.ErrZero}, {"(a 1/0)", 3, api.ErrZero}, {"1e99", 0, api.ErrOver}, {"(#b1/0)", 1, api.ErrZero}, {"#x1.0e99", 0, api.ErrOver},
		{"(#<a)", 1, ErrHash}, {"# ", 0, ErrHash}, {"#)", 0, ErrHash}, {"(#1234=a)", 1, ErrHash}, {"#1234", 0, ErrHash}, {"#2'a", 0, ErrHash}, {`#1\a`, 0, ErrHash}, {"#1:a", 0, ErrHash}, {"#1b1", 0, ErrHash}, {"#1o1", 0, ErrHash}, {"#1x1", 0, ErrHash}, {"#r1", 0, ErrHash}, {"#1r0", 0, ErrHash}, {"#37r1", 0, ErrHash}, {"#0r1", 0, ErrHash}, {"#1c(1 2)", 0, ErrHash}, {"#a(1)", 0, ErrHash}, {"#1|a|#", 0, ErrHash}, {"#1+a b", 0, ErrHash}, {"#1-a b", 0, ErrHash}, {"#=a", 0, ErrHash}, {"##", 0, ErrHash}, {"#é", 0, ErrHash}, {"#\"", 0, ErrHash}, {"#,a", 0, ErrHash}, {"#.a", 0, ErrHash}, {"#;", 0, ErrHash}, {"#`a", 0, ErrHash},
		{`(#\foo)`, 1, ErrChar}, {`#\ud800`, 0, ErrChar}, {`#\ab`, 0, ErrChar}, {`#\a\`, 4, api.ErrEnd}, {`#\spac`, 0, ErrChar}, {`#\a#`, 0, ErrChar}, {`#\(a`, 0, ErrChar}, {`#\éé`, 0, ErrChar},
		{"(#1(a b))", 1, ErrShape}, {"#2()", 0, ErrShape}, {"#1()", 0, ErrShape}, {"#0(a)", 0, ErrShape}, {"#2(#1=(a))", 0, ErrShape}, {"#2(b (#1=a))", 0, api.OK}, {"#3(b (#1=a))", 0, ErrShape}, {"#1*10", 0, ErrShape}, {"#2*", 0, ErrShape}, {"#0*1", 0, ErrShape}, {"#2a((1) (2 3))", 0, ErrShape}, {"#1a a", 0, ErrShape}, {"#2a(#1=(1) (2))", 0, ErrShape},
		{"(#xg)", 1, api.ErrForm}, {"#x", 0, api.ErrForm}, {"#x 1", 0, api.ErrForm}, {"#b2", 0, api.ErrForm}, {"#b1.5", 0, api.ErrForm}, {`#b\1`, 0, api.ErrForm}, {"#b||1", 0, api.ErrForm}, {"#o(1)", 0, api.ErrForm}, {"#*2", 0, api.ErrForm}, {"#*1a0", 0, api.ErrForm}, {`#*\1`, 0, api.ErrForm}, {"#*1||", 0, api.ErrForm}, {"#1*2", 0, api.ErrForm}, {"(#c(1))", 1, api.ErrForm}, {"#c(1 2 3)", 0, api.ErrForm}, {"#c(1 . 2)", 0, api.ErrForm}, {"#c(1 a)", 0, api.ErrForm}, {"#c(#c(1 2) 1)", 0, api.ErrForm}, {"#c(1 #c(1 2))", 0, api.ErrForm}, {"#c1", 0, api.ErrForm}, {"#c#(1 2)", 0, api.ErrForm}, {"#c()", 0, api.ErrForm}, {"#c(#1=1 2)", 0, api.ErrForm}, {"#c#1=(1 2)", 0, api.ErrForm}, {"(#+(xor) a b)", 1, api.ErrForm}, {"#+() a b", 0, api.ErrForm}, {"#+1 a", 0, api.ErrForm}, {"#+p:small a", 0, api.ErrForm}, {"#+(not) a", 0, api.ErrForm}, {"#+(or small 1) a", 0, api.ErrForm}, {"#+1 )", 0, api.ErrForm},
		{"#c(1.0 " + strings.Repeat("9", 400) + ")", 0, api.ErrOver}, {"#8a()", 0, api.ErrArg}, {"(#999a 1)", 1, api.ErrArg},
		{"#1#", 0, forms.ErrLabel}, {"(a #1#)", 3, forms.ErrLabel}, {"(#1# #1=a)", 1, forms.ErrLabel}, {"#1=#1#", 0, forms.ErrLabel}, {"(#1=(a) #2=#1#)", 8, forms.ErrLabel}, {"#1=#2=a", 0, forms.ErrLabel}, {"(#+huge #1=a #1#)", 13, forms.ErrLabel},
		{"(#1=a #1=b)", 6, api.ErrTwice}, {"#1=(a #1=b)", 6, api.ErrTwice}, {"#1=(#01=b)", 4, api.ErrTwice}, {"(#1=a #+huge #1=b c)", 13, api.ErrTwice}, {"(#1=a #1=)", 6, api.ErrTwice},
		{"(#1=a #+#1=small b)", 8, api.ErrTwice}, {"#+#1=small a", 0, api.ErrForm},
		{deep(100) + strings.Repeat(")", 100), 0, api.OK}, {deep(100) + "a", 100, api.ErrSize}, {deep(101), 100, api.ErrSize}, {deep(100) + " ;\n#||# a", 108, api.ErrSize}, {deep(100) + "..", 100, api.ErrSize}, {deep(100) + ".", 100, ErrDot}, {deep(99) + "#(.", 101, ErrDot}, {deep(99) + "(", 100, api.ErrEnd}, {deep(100) + "\x01", 100, api.ErrSize}, {deep(100) + "]" + "(", 100, api.ErrSize}, {deep(99) + "a . .)", 103, token.ErrDots}, {deep(99) + "a . b" + strings.Repeat(")", 99), 0, api.OK}, {deep(100) + ",", 100, api.ErrSize}, {deep(99) + "'a", 100, api.ErrSize}, {deep(99) + "')", 100, api.ErrSize}, {deep(99) + "#+", 101, api.ErrEnd}, {deep(99) + "#+small", 101, api.ErrSize}, {deep(100) + "#+small", 100, api.ErrSize}, {deep(99) + "#1=a", 102, api.ErrSize}, {deep(98) + "#c(1 2)", 101, api.ErrSize}, {deep(100) + "#1|a|#", 100, api.ErrSize}, {deep(100) + "#|a", 103, api.ErrEnd}, {deep(100), 100, api.ErrEnd}, {deep(99) + "a . (b", 104, api.ErrSize}, {deep(99) + "a ." + strings.Repeat(")", 99), 102, ErrClose},
		{strings.Repeat("'", 99) + "a", 0, api.OK}, {strings.Repeat("'", 100) + "a", 100, api.ErrSize}, {strings.Repeat("#-small a ", 150) + "b", 0, api.OK},
		{"(" + strings.Repeat("1 ", 1998) + ")", 0, api.OK}, {" (" + strings.Repeat("1 ", 1998) + "1)", 1, api.ErrSize}, {"#-small (" + strings.Repeat("1 ", 1980) + ") #999(#2(1))", 3971, api.ErrSize}, {"#2a(" + strings.Repeat("#*"+strings.Repeat("1", 50)+" ", 41) + ")", 0, api.ErrSize}, {"#-small #999(#3(1)) a", 0, api.OK}, {"#999(#999(#999(#999(#999(1))))) )", 0, api.ErrSize}, {"(#999(#999(#999(#999(#999(1))))) #<)", 33, ErrHash}, {"#0a" + strings.Repeat("#999(", 30) + "1" + strings.Repeat(")", 30), 0, api.ErrSize},
	} {
		r, at, e := Read(usual(), c.s, 0)
		if at != c.at || e != c.e || e != api.OK && !isEmpty(r) {
			t.Errorf("Read(%.40q) = %d, %v; want %d, %v", c.s, at, e, c.at, c.e)
		}
		if c.e == api.OK || len(c.s) > api.MaxSource-3 {
			continue
		}
		moved, place, e := Read(usual(), "é "+c.s, 3)
		if place != c.at+3 || e != c.e || !isEmpty(moved) {
			t.Errorf("Read(%.40q) at 3 = %d, %v; want %d, %v", c.s, place, e, c.at+3, c.e)
		}
	}
}

// P7.1: errors with other readtables.
func TestTableErrors(t *testing.T) {
	noRoom := with(t, ')', token.Constituent)
	for _, c := range []struct {
		o  Options
		s  string
		at int
		e  api.Errno
	}{
		{with(t, '[', token.Terminating), "(a [)", 3, ErrMacro}, {with(t, '[', token.Nonterminating), "[a", 0, ErrMacro}, {with(t, '[', token.Terminating), "a[", 0, api.OK}, {with(t, '.', token.Nonterminating), "(a . b)", 3, ErrMacro}, {with(t, '|', token.Terminating), "|", 0, ErrMacro},
		{noRoom, "(a )", 4, api.ErrEnd}, {noRoom, "(a . b)", 7, api.ErrEnd}, {noRoom, "(a . b )", 3, ErrDot}, {with(t, '\n', token.Terminating), ";a\nb", 2, ErrMacro}, {with(t, 'a', token.Invalid), "(a)", 1, token.ErrInvalid}, {with(t, 'a', token.Invalid), `#\ba`, 0, api.OK}, {with(t, 'x', token.White), "#:x", 0, api.OK},
	} {
		if _, at, e := Read(c.o, c.s, 0); at != c.at || e != c.e {
			t.Errorf("Read(%q) = %d, %v; want %d, %v", c.s, at, e, c.at, c.e)
		}
	}
}

// P7.1: Read from a place on, its References, All and One.
func TestResults(t *testing.T) {
	s := " (a q:b ;c\n :d #:e q::f |g| #-small h #+small i 'j 1 #c(1 2)) (k)"
	r, _, e := Read(usual(), s, 0)
	want := []Reference{{"P", "A", false, 2}, {"Q", "B", true, 4}, {"KEYWORD", "D", false, 12}, {"Q", "F", false, 19}, {"P", "g", false, 24}, {"P", "I", false, 46}, {"P", "J", false, 49}}
	if e != api.OK || !slices.Equal(r.References, want) || r.From != 1 || r.To != 61 {
		t.Errorf("Read = %v, %d, %d, %v; want %v", r.References, r.From, r.To, e, want)
	}
	if r, _, e := Read(usual(), s, r.To); e != api.OK || show(r.Form) != show(list(sym("K"))) || r.From != 62 || r.To != 65 || !slices.Equal(r.References, []Reference{{"P", "K", false, 63}}) {
		t.Errorf("Read behind that = %v, %v", r, e)
	}
	for s, want := range map[string][][2]int{"": nil, " ;x": nil, "a": {{0, 1}}, "(a)b'c": {{0, 3}, {3, 4}, {4, 6}}, "#-small a b #|c|# #+small d ": {{10, 11}, {18, 27}}, "a #-small b": {{0, 1}}, "#1=a #1=b": {{0, 4}, {5, 9}}} {
		l, at, e := All(usual(), s)
		var places [][2]int
		for _, r := range l {
			places = append(places, [2]int{r.From, r.To})
		}
		if e != api.OK || at != 0 || !slices.Equal(places, want) {
			t.Errorf("All(%q) = %v, %d, %v; want %v", s, places, at, e, want)
		}
	}
	for _, c := range []struct {
		s    string
		at   int
		all  api.Errno
		only int
		one  api.Errno
	}{
		{s: "a )", at: 2, all: ErrClose, only: 2, one: ErrClose}, {s: "a b", only: 2, one: api.ErrTwice}, {s: "a ;c\n b )", at: 8, all: ErrClose, only: 6, one: api.ErrTwice}, {s: "a #-small c b", only: 12, one: api.ErrTwice}, {s: "", one: api.ErrNone}, {s: " ", only: 1, one: api.ErrNone}, {s: "(a", at: 2, all: api.ErrEnd, only: 2, one: api.ErrEnd}, {s: "a #1#", at: 2, all: forms.ErrLabel, only: 2, one: forms.ErrLabel}, {s: "#1=a #1#", at: 5, all: forms.ErrLabel, only: 5, one: forms.ErrLabel}, {s: "a #-small b ;c", one: api.OK},
	} {
		if l, at, e := All(usual(), c.s); e != c.all || at != c.at || e != api.OK && len(l) > 0 {
			t.Errorf("All(%q) = %v, %d, %v; want %d, %v", c.s, l, at, e, c.at, c.all)
		}
		if r, at, e := One(usual(), c.s); e != c.one || at != c.only || e != api.OK && !isEmpty(r) {
			t.Errorf("One(%q) = %v, %d, %v; want %d, %v", c.s, r, at, e, c.only, c.one)
		}
	}
}

// P7.1: no two lists of a result share memory.
func TestSharing(t *testing.T) {
	r, _, e := One(usual(), "#3((a))")
	if e != api.OK || len(r.Form.Kids) != 3 {
		t.Fatalf("One = %v, %v", r, e)
	}
	r.Form.Kids[0].Kids[0].Text = "changed"
	if r.Form.Kids[1].Kids[0].Text != "A" || r.Form.Kids[2].Kids[0].Text != "A" {
		t.Error("repeated elements share memory")
	}
}
