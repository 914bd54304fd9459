package printer

import (
	"math/rand"
	"strings"
	"testing"

	"commonform/api"
	"commonform/forms"
	"commonform/notation"
	"commonform/reader"
	"commonform/token"
)

// P8.1: Print.
func TestPrint(t *testing.T) {
	a, b, n, one := sym("A"), sym("B"), forms.Nil(), num("1")
	circle := with(func(o *Options) { o.Circle = true })
	long := with(func(o *Options) { o.Abbrev = false })
	hidden := with(func(o *Options) { o.Array = false })
	hidden0 := with(func(o *Options) { o.Array, o.Level = false, 0 })
	bare := with(func(o *Options) { o.Escape = false })
	limit := func(length, level int) Options { return with(func(o *Options) { o.Length, o.Level = length, level }) }
	number := func(base int, radix, double bool) Options {
		return with(func(o *Options) { o.Base, o.Radix, o.Double = base, radix, double })
	}
	deep := list(one, list(num("2"), list(num("3"))), num("4"), num("5"))
	cube := array("2 2 1", one, num("2"), num("3"), num("4"))
	comma := forms.Symbol(notation.Home, "COMMA")
	for _, c := range []struct {
		o    Options
		f    api.Form
		want string
	}{
		{usual(), num("-12"), "-12"}, {number(16, true, false), num("-255"), "#x-FF"}, {number(10, true, false), num("5"), "5."}, {number(2, false, false), node(api.FormRatio, "-1/2"), "-1/10"}, {number(10, false, true), node(api.FormSingle, "3fc00000"), "1.5f0"}, {number(10, false, false), node(api.FormSingle, "3fc00000"), "1.5"}, {number(10, false, true), node(api.FormDouble, "3ff8000000000000"), "1.5"}, {number(8, true, false), node(api.FormComplex, "", num("8"), num("-9")), "#C(#o10 #o-11)"}, {limit(0, 0), node(api.FormComplex, "", num("8"), num("-9")), "#C(8 -9)"},
		{usual(), n, "nil"}, {usual(), list(a), "(a)"}, {usual(), list(a, list(b), n), "(a (b) nil)"}, {usual(), cons(a, b), "(a . b)"}, {usual(), cons(a, b, vec(one)), "(a b . #(1))"}, {usual(), vec(), "#()"}, {usual(), vec(a, list(b)), "#(a (b))"}, {usual(), node(api.FormBits, "101"), "#*101"}, {usual(), node(api.FormBits, ""), "#*"}, {usual(), char(" "), `#\Space`}, {usual(), list(char("("), str("a\"")), `(#\( "a\"")`}, {bare, list(char("("), str("a\""), sym("b c"), vec(str("@"))), `(( a" b c #(@))`}, {usual(), cons(a, str("")), `(a . "")`},
		{hidden, node(api.FormBits, "1"), "#<BIT-VECTOR>"}, {hidden, vec(a), "#<VECTOR>"}, {hidden, cube, "#<ARRAY>"}, {hidden, array("", a), "#<ARRAY>"}, {hidden0, vec(a), "#<VECTOR>"}, {hidden, list(str("a"), vec(a)), `("a" #<VECTOR>)`},
		{usual(), list(lisp("QUOTE"), a), "'a"}, {usual(), list(lisp("FUNCTION"), a), "#'a"}, {usual(), list(lisp("QUOTE"), list(lisp("FUNCTION"), n)), "'#'nil"}, {usual(), list(lisp("QUOTE"), a, b), "(quote a b)"}, {usual(), list(lisp("QUOTE")), "(quote)"}, {usual(), cons(lisp("QUOTE"), a), "(quote . a)"}, {usual(), cons(lisp("QUOTE"), a, b), "(quote a . b)"}, {usual(), list(sym("FUNCTION"), a), "(function a)"}, {usual(), list(sym("QUOTE"), a), "(quote a)"}, {long, list(lisp("QUOTE"), a), "(quote a)"}, {usual(), list(a, lisp("QUOTE"), b), "(a quote b)"}, {usual(), cons(a, list(lisp("QUOTE"), b), n), "(a 'b)"},
		{usual(), back("BACKQUOTE", a), "`a"}, {usual(), back("BACKQUOTE", list(a, back("COMMA", b), back("SPLICE", a))), "`(a ,b ,@a)"}, {usual(), back("COMMA", a), "(reader::comma a)"}, {usual(), back("SPLICE", a), "(reader::splice a)"}, {usual(), back("BACKQUOTE", back("COMMA", back("COMMA", a))), "`,(reader::comma a)"}, {usual(), back("BACKQUOTE", back("BACKQUOTE", back("COMMA", back("SPLICE", a)))), "``,,@a"}, {usual(), back("BACKQUOTE", back("COMMA", back("BACKQUOTE", back("COMMA", a)))), "`,`,a"}, {usual(), list(back("BACKQUOTE", a), back("COMMA", b)), "(`a (reader::comma b))"}, {usual(), back("BACKQUOTE", vec(back("COMMA", a))), "`#(,a)"}, {usual(), back("BACKQUOTE", array("", back("COMMA", a))), "`#0A,a"}, {usual(), back("BACKQUOTE", list(lisp("QUOTE"), back("COMMA", a))), "`',a"}, {long, back("BACKQUOTE", back("COMMA", a)), "(reader::backquote (reader::comma a))"}, {usual(), back("BACKQUOTE", cons(a, comma, b, n)), "`(a reader::comma b)"}, {usual(), back("BACKQUOTE", a, b), "(reader::backquote a b)"}, {usual(), back("BACKQUOTE", back("COMMA", a, b)), "`(reader::comma a b)"},
		{usual(), back("BACKQUOTE", back("COMMA", sym("@A"))), "`, @a"}, {usual(), back("BACKQUOTE", back("SPLICE", sym("@A"))), "`,@@a"}, {usual(), back("BACKQUOTE", list(back("COMMA", sym("@A")), sym("@B"))), "`(, @a @b)"}, {bare, back("BACKQUOTE", back("COMMA", str("@"))), "`, @"}, {bare, back("BACKQUOTE", list(back("COMMA", str("")), sym("@"))), "`(, @)"}, {bare, back("BACKQUOTE", back("COMMA", list(lisp("QUOTE"), str("@")))), "`,'@"},
		{usual(), array("", a), "#0Aa"}, {usual(), array("2 2", one, num("2"), num("3"), num("4")), "#2A((1 2) (3 4))"}, {usual(), cube, "#3A(((1) (2)) ((3) (4)))"}, {usual(), array("0 2"), "#2A()"}, {usual(), array("2 0"), "#2A(() ())"}, {usual(), array("1 0 3"), "#3A(())"}, {usual(), array("", array("", vec())), "#0A#0A#()"},
		{circle, lab("5", cons(a, ref("5"))), "#0=(a . #0#)"}, {circle, list(lab("7", list(a)), ref("7"), lab("3", str("x")), ref("3")), `(#0=(a) #0# #1="x" #1#)`}, {circle, list(lab("7", a), ref("7")), "(a a)"}, {circle, cons(a, lab("1", list(b, ref("1")))), "(a . #0=(b #0#))"}, {circle, cons(a, lab("1", list(b))), "(a b)"}, {circle, vec(lab("1", vec(ref("1")))), "#(#0=#(#0#))"}, {circle, lab("1", array("", ref("1"))), "#0=#0A#0#"}, {circle, lab("1", array("2 1", ref("1"), lab("2", list(ref("2"))))), "#0=#2A((#0#) (#1=(#1#)))"}, {usual(), list(lab("7", list(a)), ref("7")), "((a) (a))"}, {usual(), cons(b, lab("7", list(a))), "(b a)"}, {circle, lab("1", list(lisp("QUOTE"), ref("1"))), "#0='#0#"}, {circle, cons(a, lab("1", list(lisp("QUOTE"), ref("1")))), "(a . #0='#0#)"},
		{limit(-1, 2), deep, "(1 (2 #) 4 5)"}, {limit(2, -1), deep, "(1 (2 (3)) ...)"}, {limit(-1, 0), deep, "#"}, {limit(0, -1), deep, "(...)"}, {limit(1, 1), deep, "(1 ...)"}, {limit(4, 3), deep, "(1 (2 (3)) 4 5)"}, {limit(3, 3), deep, "(1 (2 (3)) 4 ...)"}, {limit(0, 0), vec(), "#"}, {limit(0, 1), vec(), "#()"}, {limit(0, 0), a, "a"}, {limit(0, -1), vec(a), "#(...)"}, {limit(1, -1), cons(a, b), "(a . b)"}, {limit(0, -1), cons(a, b), "(...)"}, {limit(1, -1), cons(a, b, a), "(a ...)"}, {limit(-1, 1), cons(a, vec(a)), "(a . #)"}, {limit(-1, 2), cons(a, vec(list(a))), "(a . #(#))"}, {limit(-1, 1), list(lisp("QUOTE"), list(a)), "'(a)"}, {limit(-1, 1), list(list(lisp("QUOTE"), list(a)), list(lisp("QUOTE"), b)), "('# 'b)"}, {limit(0, -1), list(lisp("QUOTE"), list(a)), "'(...)"},
		{limit(-1, 0), cube, "#3A#"}, {limit(-1, 1), cube, "#3A(# #)"}, {limit(-1, 2), cube, "#3A((# #) (# #))"}, {limit(1, -1), cube, "#3A(((1) ...) ...)"}, {limit(0, -1), cube, "#3A(...)"}, {limit(-1, 1), array("1 1", list(a)), "#2A(#)"}, {limit(-1, 2), array("1 1", list(a)), "#2A((#))"}, {limit(-1, 0), array("", list(a)), "#0A#"}, {limit(-1, 1), array("", list(a)), "#0A(a)"}, {limit(0, 0), node(api.FormBits, "101"), "#*101"},
		{with(func(o *Options) { o.Circle, o.Level = true, 0 }), lab("1", list(ref("1"))), "#0=#"}, {with(func(o *Options) { o.Circle, o.Level = true, 1 }), list(lab("1", list(ref("1")))), "(#0=#)"}, {with(func(o *Options) { o.Circle, o.Length = true, 1 }), list(lab("1", list(a)), ref("1")), "(#0=(a) ...)"},
	} {
		if e := forms.Check(c.f); e != api.OK {
			t.Errorf("the form of %q has the error %v", c.want, e)
		}
		if s, e := Print(c.o, c.f); s != c.want || e != api.OK {
			t.Errorf("Print = %q, %v; want %q", s, e, c.want)
		}
	}
}

// P8.1: the errors of Print.
func TestPrintErrors(t *testing.T) {
	a := sym("A")
	readable := func(pairs ...rune) Options {
		return with(func(o *Options) { *o = Readably(*o); o.Table = table(t, pairs...) })
	}
	hidden := with(func(o *Options) { o.Readable, o.Array = true, false })
	noSingle := with(func(o *Options) { o.Table = table(t, '\\', token.Constituent) })
	circle := lab("1", list(ref("1")))
	big := node(api.FormRatio, "2000000000000000000/4000000000000000000")
	twice := func(n int) api.Form { return list(lab("1", list(many(n, a)...)), ref("1")) }
	for i, c := range []struct {
		o    Options
		f    api.Form
		want api.Errno
	}{
		{usual(), api.Form{}, api.ErrForm}, {usual(), num("01"), api.ErrForm}, {usual(), vec(many(2000, a)...), api.ErrSize}, {usual(), list(ref("1")), forms.ErrLabel}, {usual(), list(lab("1", vec()), lab("1", vec())), api.ErrTwice},
		{usual(), circle, forms.ErrCircle}, {usual(), twice(900), api.OK}, {usual(), twice(1000), api.ErrSize}, {with(func(o *Options) { o.Circle = true }), twice(1000), api.OK}, {readable(), circle, api.OK},
		{readable('a', token.White), api.Form{}, api.ErrForm}, {readable('z', token.White), a, ErrReadable}, {readable('A', token.White), a, ErrReadable}, {readable('Z', token.White), a, ErrReadable}, {readable('a', token.White), a, ErrReadable}, {readable('0', token.White), a, ErrReadable}, {readable('9', token.Single), a, ErrReadable}, {readable('.', token.Multiple), a, ErrReadable}, {readable(':', token.Invalid), a, ErrReadable}, {readable('+', token.White), a, ErrReadable}, {readable('-', token.White), a, ErrReadable}, {readable('/', token.White), a, ErrReadable}, {readable('(', token.Constituent), a, ErrReadable}, {readable('`', token.Constituent), a, ErrReadable}, {readable('#', token.Constituent), a, ErrReadable}, {readable(' ', token.Constituent), a, ErrReadable}, {readable('\f', token.Constituent), a, ErrReadable}, {readable('~', token.White, '#', token.Terminating), a, ErrReadable},
		{readable('!', token.White, '_', token.Single, '@', token.Terminating, '|', token.Constituent, '\\', token.Constituent, 'é', token.Invalid, '\x01', token.White, '*', token.Multiple, '[', token.Nonterminating), a, api.OK}, {readable('{', token.Nonterminating, 0x7f, token.White), a, api.OK},
		{with(func(o *Options) { o.Readable, o.Table = true, table(t, 'a', token.White) }), circle, ErrReadable}, {with(func(o *Options) { o.Table = table(t, 'a', token.White) }), a, api.OK},
		{hidden, vec(), ErrReadable}, {hidden, node(api.FormBits, ""), ErrReadable}, {hidden, array("0 1"), ErrReadable}, {hidden, array("2 0"), ErrReadable}, {hidden, list(str("a"), num("1")), api.OK},
		{readable(), array("0 2"), ErrReadable}, {readable(), array("0 0"), api.OK}, {readable(), array("2 0"), api.OK}, {readable(), array("2 0 1"), ErrReadable}, {readable(), array("0 0 0"), api.OK}, {readable(), array("0 2 0"), ErrReadable}, {usual(), array("0 2"), api.OK}, {readable(), array("2 2 0"), api.OK},
		{usual(), big, api.ErrForm}, {usual(), list(num(longDigits(20001))), api.ErrLarge}, {usual(), list(forms.Symbol("Q", ""), big), api.ErrArg}, {usual(), list(big, forms.Symbol("Q", "")), api.ErrForm}, {noSingle, list(str(`"`), big), ErrReadable}, {noSingle, list(big, str(`"`)), api.ErrForm}, {hidden, list(sym(longText(4001)), vec()), api.ErrSize}, {hidden, list(vec(), sym(longText(4001))), ErrReadable},
		{usual(), str(longText(99998)), api.OK}, {usual(), list(str(longText(99996))), api.OK}, {usual(), list(str(longText(99997))), api.ErrLarge}, {usual(), list(str(longText(60000)), str(longText(60000)), big), api.ErrLarge}, {usual(), list(str(longText(60000)), big, str(longText(60000))), api.ErrForm}, {usual(), list(lisp("QUOTE"), str(longText(99998))), api.ErrLarge},
	} {
		if s, e := Print(c.o, c.f); e != c.want || e != api.OK && s != "" {
			t.Errorf("Print of the form %d = %.40q, %v; want %v", i, s, e, c.want)
		}
	}
}

func longDigits(n int) string { return strings.Repeat("9", n) }

// P8.1: Text and Lines.
func TestTexts(t *testing.T) {
	user := func(s string) api.Form { return forms.Symbol("COMMON-LISP-USER", s) }
	f := list(lisp("CAR"), user("a"), str("b"), sym("C"), lab("1", list(char(" "), ref("1"))), list(lisp("QUOTE"), vec()))
	if s, e := Text(f, true); s != `(car |a| "b" p::c #0=(#\Space #0#) '#())` || e != api.OK {
		t.Errorf("Text = %q, %v", s, e)
	}
	if s, e := Text(f, false); s != "(car a b c #0=(  #0#) '#())" || e != api.OK {
		t.Errorf("Text without escapes = %q, %v", s, e)
	}
	if s, e := Text(num("x"), true); s != "" || e != api.ErrForm {
		t.Errorf("Text of a wrong form = %q, %v", s, e)
	}
	for _, c := range []struct {
		l    []api.Form
		want string
		e    api.Errno
	}{
		{nil, "", api.OK}, {[]api.Form{num("1")}, "1\n", api.OK}, {[]api.Form{num("1"), sym("A"), list()}, "1\na\nnil\n", api.OK}, {[]api.Form{num("1"), api.Form{}, list(ref("1"))}, "", api.ErrForm}, {[]api.Form{list(ref("1")), api.Form{}}, "", forms.ErrLabel},
		{[]api.Form{str(longText(49997)), str(longText(49997))}, `"` + longText(49997) + "\"\n" + `"` + longText(49997) + "\"\n", api.OK}, {[]api.Form{str(longText(49997)), str(longText(49998))}, "", api.ErrLarge}, {many(60000, num("1")), "", api.ErrLarge},
	} {
		if s, e := Lines(usual(), c.l); s != c.want || e != c.e {
			t.Errorf("Lines = %.40q, %v; want %.40q, %v", s, e, c.want, c.e)
		}
	}
}

// P8.2.
func TestThereAndBack(t *testing.T) {
	fine := 0
	eachForm(t, func(r *rand.Rand, f api.Form) {
		o := Readably(options(t, r))
		s, e := Print(o, f)
		if e != api.OK {
			return
		}
		in := reader.Options{Table: o.Table, Base: o.Base, Double: o.Double, Package: o.Package}
		for _, behind := range []string{"", "\n", ";x", " #|x|#"} {
			x, at, e := reader.One(in, s+behind)
			if e != api.OK {
				t.Fatalf("One(%v, %q) = %d, %v", in, s+behind, at, e)
			}
			if same, e := forms.Same(x.Form, f); !same || e != api.OK || x.To != len(s) {
				t.Fatalf("One(%v, %q) is another form than what was printed: %v", in, s, f)
			}
		}
		fine++
	})
	if fine < 3000 {
		t.Errorf("only %d forms were printed", fine)
	}
}

// P8.3.
func TestSharing(t *testing.T) {
	plain := 0
	eachForm(t, func(r *rand.Rand, f api.Form) {
		o := options(t, r)
		if g, e := forms.Plain(f); e == api.OK {
			s, e1 := Print(o, f)
			p, e2 := Print(o, g)
			if s != p || e1 != e2 {
				t.Fatalf("Print = %q, %v, and of Plain %q, %v", s, e1, p, e2)
			}
			plain++
		}
		o.Circle = true
		g, e := forms.Normal(f)
		s, e1 := Print(o, f)
		n, e2 := Print(o, g)
		if e != api.OK || s != n || e1 != e2 {
			t.Fatalf("Print = %q, %v, and of Normal %q, %v", s, e1, n, e2)
		}
	})
	if plain < 1000 {
		t.Errorf("only %d forms have a Plain", plain)
	}
}

// P8.4.
func TestLimits(t *testing.T) {
	eachForm(t, func(r *rand.Rand, f api.Form) {
		o := options(t, r)
		o.Circle, o.Length, o.Level = true, -1, -1
		want, e := Print(o, f)
		nodes, depth := forms.Size(f)
		o.Length, o.Level = 2000+nodes, 4*depth // an array has several levels
		s, e1 := Print(o, f)
		if s != want || e1 != e {
			t.Fatalf("Print with great limits = %q, %v; want %q, %v", s, e1, want, e)
		}
		if o.Abbrev || f.Kind != api.FormCons {
			return
		}
		o.Length, o.Level = -1, 0
		if s, e := Print(o, f); s != "#" || e != api.OK {
			t.Fatalf("Print with the Level 0 = %q, %v", s, e)
		}
		o.Length, o.Level = 0, -1
		if s, e := Print(o, f); s != "(...)" || e != api.OK {
			t.Fatalf("Print with the Length 0 = %q, %v", s, e)
		}
	})
}

// P8.6.
func TestLists(t *testing.T) {
	lists := 0
	eachForm(t, func(r *rand.Rand, f api.Form) {
		o := options(t, r)
		o.Length, o.Level = -1, -1
		f, e := forms.Plain(f)
		items, ok := forms.Items(f)
		front, _ := notation.Front(f, 0)
		if _, bad := Print(o, f); e != api.OK || bad != api.OK || !ok || len(items) == 0 || o.Abbrev && front != "" {
			return
		}
		var texts []string
		for _, item := range items {
			texts = append(texts, plainText(t, o, item))
		}
		if s, want := plainText(t, o, f), "("+strings.Join(texts, " ")+")"; s != want {
			t.Fatalf("Print = %q; want %q", s, want)
		}
		lists++
	})
	if lists < 300 {
		t.Errorf("only %d lists", lists)
	}
}
