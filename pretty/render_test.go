package pretty

import (
	"math"
	"math/rand"
	"slices"
	"strings"
	"testing"

	"commonform/api"
)

// P9.1: the constants.
func TestConstants(t *testing.T) {
	if ErrBlock != 110 || Text != 0 || Newline != 1 || Open != 2 || Close != 3 || Indent != 4 || Tab != 5 || Linear != 0 || Fill != 1 || Miser != 2 || Mandatory != 3 {
		t.Error("constants")
	}
}

// P9.1: the error of operations.
func TestCheck(t *testing.T) {
	long := strings.Repeat("x", 20000)
	for i, c := range []struct {
		l    []Op
		want api.Errno
	}{
		{nil, api.OK}, {many(4000, text("")), api.OK}, {many(4001, text("")), api.ErrSize}, {many(4001, Op{Kind: 9}), api.ErrSize},
		{[]Op{text(long)}, api.OK}, {[]Op{text(long + "x")}, api.ErrSize}, {[]Op{text(long), open("x"), closing("")}, api.ErrSize}, {[]Op{text(long), {Kind: Newline, Text: "x"}}, api.ErrSize}, {[]Op{{Kind: 9}, text(long + "x")}, api.ErrSize},
		{[]Op{{Kind: -1}}, api.ErrArg}, {[]Op{{Kind: 6}}, api.ErrArg}, {[]Op{line(-1)}, api.ErrArg}, {[]Op{line(4)}, api.ErrArg}, {[]Op{line(3)}, api.OK}, {[]Op{indent(-100), indent(100)}, api.OK}, {[]Op{indent(-101)}, api.ErrArg}, {[]Op{indentHere(101)}, api.ErrArg}, {[]Op{indent(math.MinInt)}, api.ErrArg}, {[]Op{tab(0, 100), tabHere(100, 0)}, api.OK}, {[]Op{tab(-1, 0)}, api.ErrArg}, {[]Op{tab(101, 0)}, api.ErrArg}, {[]Op{tab(0, -1)}, api.ErrArg}, {[]Op{tabHere(0, 101)}, api.ErrArg}, {[]Op{{Kind: Text, N: 999, M: -5}, {Kind: Newline, M: -5}, {Kind: Indent, M: 999}}, api.OK},
		{[]Op{text("\xff")}, api.ErrForm}, {[]Op{text("a\nb")}, api.OK}, {[]Op{open("a\n"), closing("")}, api.ErrForm}, {[]Op{open(""), closing("\n")}, api.ErrForm}, {[]Op{open("\xff"), closing("")}, api.ErrForm}, {[]Op{{Kind: Newline, Text: "\n"}}, api.OK}, {[]Op{{Kind: Newline, N: 4, Text: "\xff"}}, api.ErrArg},
		{[]Op{closing("")}, ErrBlock}, {[]Op{open("")}, ErrBlock}, {[]Op{open(""), closing(""), closing("")}, ErrBlock}, {[]Op{closing(""), {Kind: 9}}, ErrBlock}, {[]Op{{Kind: 9}, closing("")}, api.ErrArg}, {[]Op{open(""), text("\xff")}, api.ErrForm}, {[]Op{closing("\n")}, api.ErrForm},
		{append(many(100, open("")), many(100, closing(""))...), api.OK}, {append(many(101, open("")), many(101, closing(""))...), ErrBlock}, {append(many(101, open("")), Op{Kind: 9}), ErrBlock}, {many(1000, open(""), closing("")), api.OK},
	} {
		if e := Check(c.l); e != c.want {
			t.Errorf("Check of the operations %d = %v; want %v", i, e, c.want)
		}
		f, e1 := Flat(c.l)
		r, e2 := Render(c.l, 0, -1)
		if c.want != api.OK && (e1 != c.want || e2 != c.want || f+r != "") || c.want == api.OK && (e1 != api.OK || e2 != api.ErrArg || r != "") {
			t.Errorf("Flat and Render of the operations %d: %v, %v; want %v", i, e1, e2, c.want)
		}
	}
}

// P9.1: the widths, and texts that are too long.
func TestLimits(t *testing.T) {
	for _, c := range []struct {
		width, miser int
		want         api.Errno
	}{
		{1, 0, api.OK}, {200, 200, api.OK}, {0, 0, api.ErrArg}, {201, 0, api.ErrArg}, {-1, 0, api.ErrArg}, {1, -1, api.ErrArg}, {1, 201, api.ErrArg}, {math.MaxInt, math.MinInt, api.ErrArg},
	} {
		if s, e := Render([]Op{text("a")}, c.width, c.miser); e != c.want || (s == "a") != (e == api.OK) {
			t.Errorf("Render in %d, %d = %q, %v; want %v", c.width, c.miser, s, e, c.want)
		}
	}
	hundred := tabHere(100, 0)
	for i, c := range []struct {
		l            []Op
		flat, broken api.Errno
	}{
		{many(1000, hundred), api.OK, api.OK}, {append(many(1000, hundred), text("x")), api.ErrLarge, api.ErrLarge}, {many(4000, hundred), api.ErrLarge, api.ErrLarge}, {append(many(1000, hundred), tabHere(1, 0)), api.ErrLarge, api.ErrLarge},
		{append(many(1001, hundred), line(Mandatory)), api.ErrLarge, api.OK}, {append(many(1001, hundred), line(Linear), text("x")), api.ErrLarge, api.OK}, {append(many(999, hundred), text("x"), line(Mandatory), text("y"), hundred), api.ErrLarge, api.ErrLarge}, {append(many(999, hundred), text("x"), line(Mandatory), text("y"), hundred, line(Mandatory)), api.ErrLarge, api.OK},
		{append(many(990, hundred), join([]Op{open("x")}, many(9, line(Mandatory), text("x")), []Op{closing("")})...), api.OK, api.ErrLarge},
	} {
		s, e := Flat(c.l)
		r, f := Render(c.l, 10, 0)
		if e != c.flat || f != c.broken || len(s) > 100000 || len(r) > 100000 || e != api.OK && s != "" || f != api.OK && r != "" {
			t.Errorf("the operations %d: Flat %v, Render %v; want %v, %v", i, e, f, c.flat, c.broken)
		}
	}
}

// P9.1: Render, and Flat.
func TestRender(t *testing.T) {
	prefixed := []Op{text("a "), each("; "), text("b"), line(Mandatory), open("("), text("c "), each("> "), text("d"), line(Mandatory), text("e"), closing("<"), line(Mandatory), text("f"), closing(")"), line(Mandatory), text("g"), closing("."), line(Mandatory), text("h")}
	inner := []Op{open("("), text("aa "), line(Linear), open("["), text("b "), line(Linear), text("c"), closing("]"), text(" "), line(Linear), text("d"), closing(")")}
	for i, c := range []struct {
		l            []Op
		width, miser int
		want         string
	}{
		{row(Linear, "aa", "bb"), 7, 0, "(aa bb)"}, {row(Linear, "aa", "bb"), 6, 0, "(aa\n bb)"}, {row(Fill, "aa", "bb", "cc"), 7, 0, "(aa bb\n cc)"}, {row(Fill, "aa", "bb", "cc"), 6, 0, "(aa\n bb\n cc)"}, {row(Fill, "aa", "bb", "cc"), 10, 0, "(aa bb cc)"}, {row(Fill, "aa", "bb", "cc"), 9, 0, "(aa bb\n cc)"}, {row(Fill, "aa", "bb", "cc"), 9, 8, "(aa\n bb\n cc)"}, {row(Fill, "aa", "bb", "cc"), 9, 7, "(aa bb\n cc)"},
		{row(Miser, "aa", "bb"), 3, 0, "(aa bb)"}, {row(Miser, "aa", "bb"), 3, 2, "(aa\n bb)"}, {row(Miser, "aa", "bb"), 3, 1, "(aa bb)"}, {row(Miser, "aa", "bb"), 7, 200, "(aa bb)"}, {row(Mandatory, "aa", "bb"), 99, 0, "(aa\n bb)"},
		{row(Linear, "éé", "€€"), 7, 0, "(éé €€)"}, {[]Op{text("a "), line(Linear), text("b")}, 3, 0, "a b"}, {[]Op{text("a "), line(Linear), text("b")}, 2, 0, "a\nb"}, {[]Op{text("a "), line(Linear), text("b"), line(Mandatory)}, 99, 0, "a\nb\n"}, {[]Op{text("a "), line(Linear), text("b\n")}, 99, 0, "a\nb\n"},
		{inner, 13, 0, "(aa [b c] d)"}, {inner, 11, 0, "(aa\n [b c]\n d)"}, {inner, 5, 0, "(aa\n [b\n  c]\n d)"},
		// the section of a block goes on behind its end: c is followed by ) and more
		{[]Op{open("("), text("a "), line(Fill), text("b"), closing(")"), text("ccc "), line(Linear), text("d")}, 9, 0, "(a b)ccc\nd"}, {[]Op{open("("), text("a "), line(Fill), text("b"), closing(")"), text("ccc "), line(Linear), text("d")}, 8, 0, "(a\n b)ccc\nd"},
		{[]Op{open("("), open("["), text("a "), line(Fill), text("b"), closing("]"), closing(")"), text("cc")}, 8, 0, "([a\n  b])cc"}, {[]Op{open("("), open("["), text("a "), line(Fill), text("b"), closing("]"), closing(")"), text("cc")}, 9, 0, "([a b])cc"},
		{[]Op{open("("), text("a "), line(Fill), text("b"), closing(")"), open("["), line(Mandatory), closing("]")}, 99, 0, "(a\n b)[\n    ]"}, {[]Op{open("("), text("a "), line(Fill), text("b"), closing(")"), line(Mandatory)}, 99, 0, "(a b)\n"}, {[]Op{open("("), text("a "), line(Fill), text("b"), closing(")"), open("["), line(Linear), text("ccc"), closing("]")}, 9, 0, "(a\n b)[\n    ccc]"},
		// a section ahead that has several lines
		{[]Op{open("("), open("["), text("a"), line(Mandatory), text("b"), closing("]"), text(" "), line(Fill), text("c "), line(Fill), text("d"), closing(")")}, 99, 0, "([a\n  b]\n c d)"}, {[]Op{open("("), text("a\nb "), line(Fill), text("c "), line(Fill), text("d"), closing(")")}, 99, 0, "(a\nb\n c d)"},
		// indentation
		{[]Op{open("("), text("ab "), indent(1), line(Mandatory), text("c "), indentHere(0), text("d"), line(Mandatory), text("e"), indentHere(-2), line(Mandatory), text("f"), indent(-9), line(Mandatory), text("g"), closing(")")}, 99, 0, "(ab\n  c d\n    e\n   f\ng)"}, {[]Op{open("("), text("ab "), indent(3), line(Mandatory), text("c"), closing(")")}, 10, 9, "(ab\n c)"}, {[]Op{open("("), text("ab "), indent(3), line(Mandatory), text("c"), closing(")")}, 10, 8, "(ab\n    c)"}, {[]Op{indent(2), text("a"), line(Mandatory), text("b"), indentHere(3), line(Mandatory), text("c")}, 99, 0, "a\n  b\n      c"},
		// tabs
		{[]Op{text("ab"), tab(5, 0), text("c"), tab(2, 4), text("d"), tabHere(1, 8), text("e")}, 80, 0, "ab   c    d     e"}, {[]Op{text("abc"), tab(3, 0), text("d")}, 80, 0, "abcd"}, {[]Op{text("abc"), tab(3, 2), text("d")}, 80, 0, "abc  d"}, {[]Op{text("abcd"), tab(3, 2), text("e")}, 80, 0, "abcd e"}, {[]Op{text("ab"), tabHere(3, 0), text("c")}, 80, 0, "ab   c"}, {[]Op{text("ab"), tabHere(2, 4), text("c")}, 80, 0, "ab  c"}, {[]Op{text("ab"), tabHere(0, 0), tabHere(0, 2), tab(0, 0), text("c")}, 80, 0, "abc"}, {[]Op{text("abc\na"), tab(3, 0), text("d")}, 80, 0, "abc\na  d"}, {[]Op{text("é"), tab(2, 0), text("d")}, 80, 0, "é d"}, {[]Op{tab(0, 3), text("d")}, 80, 0, "   d"},
		{[]Op{open("("), text("a"), tab(4, 0), line(Fill), text("b"), tab(9, 0), closing(")")}, 10, 0, "(a  b    )"}, {[]Op{open("("), text("a"), tab(4, 0), line(Fill), text("b"), tab(9, 0), closing(")")}, 9, 0, "(a\n b       )"},
		// prefixes of each line
		{prefixed, 99, 0, "a ; b\n  ; (c > d\n  ;    > e<\n  ;  f)\n  ; g.\nh"}, {[]Op{each("; "), text("a"), line(Mandatory), line(Mandatory), text("b"), closing("")}, 99, 0, "; a\n;\n; b"}, {[]Op{text("abc"), each("; "), indent(-9), text("d"), line(Mandatory), text("e"), closing("")}, 99, 0, "abc; d\n   ; e"}, {[]Op{text("abc"), each(";"), text("d\n"), each(">"), text("e"), line(Mandatory), text("f"), closing(""), closing("")}, 99, 0, "abc;d\n>e\n   ;>f"}, {[]Op{text("ab"), each(""), indent(-9), line(Mandatory), text("c"), closing("")}, 99, 0, "ab\n  c"},
		// spaces at the ends of lines
		{[]Op{text("a  "), tabHere(3, 0), line(Mandatory), text("  b "), text(""), line(Mandatory), text("c ")}, 99, 0, "a\n  b\nc "}, {[]Op{text("a \nb "), line(Mandatory), text(" \n "), line(Mandatory)}, 99, 0, "a \nb\n \n\n"}, {[]Op{text("   "), line(Mandatory), text(" ")}, 99, 0, "\n "},
		{nil, 1, 0, ""}, {[]Op{open("a"), closing("b")}, 1, 0, "ab"}, {[]Op{text("a"), open("("), text("b "), line(Fill), closing(")")}, 1, 0, "a(b\n  )"}, {[]Op{text("ab"), line(Fill), line(Fill), text("")}, 1, 0, "ab\n"},
	} {
		if s, e := Render(c.l, c.width, c.miser); s != c.want || e != api.OK {
			t.Errorf("Render of the operations %d in %d, %d = %q, %v; want %q", i, c.width, c.miser, s, e, c.want)
		}
		if m := newModel(c.l, c.width, c.miser).render(); m != c.want {
			t.Errorf("the model of the operations %d in %d, %d = %q; want %q", i, c.width, c.miser, m, c.want)
		}
	}
	if s, e := Flat(prefixed); s != "a ; b(c > de<f)g.h" || e != api.OK {
		t.Errorf("Flat = %q, %v", s, e)
	}
	if s, e := Flat([]Op{text("a\nb "), tab(4, 0), line(Mandatory), text("c ")}); s != "a\nb   c " || e != api.OK {
		t.Errorf("Flat = %q, %v", s, e)
	}
}

// P9.1: Render does what the chapter says for many operations.
func TestRenderModel(t *testing.T) {
	eachOps(t, chance{most: Mandatory, feeds: true, prefix: true}, func(l []Op, width, miser int) {
		if s, want := render(t, l, width, miser), newModel(l, width, miser).render(); s != want {
			t.Fatalf("Render(%v, %d, %d) = %q; want %q", l, width, miser, s, want)
		}
	})
}

// P9.1: Width.
func TestWidth(t *testing.T) {
	for s, want := range map[string]int{"": 0, "a": 1, "ab\nabc\né": 3, "abc\n": 3, "\n\n": 0, "é€x": 3, "\xff\xff": 2, "a\r\nb": 2} {
		if n := Width(s); n != want {
			t.Errorf("Width(%q) = %d; want %d", s, n, want)
		}
	}
}

// P9.2.
func TestFlatLaw(t *testing.T) {
	fitting := 0
	eachOps(t, chance{most: Miser}, func(l []Op, width, miser int) {
		s := flat(t, l)
		if width = Width(s); width >= 1 && width <= 200 {
			fitting++
			if got := render(t, l, width, miser); got != s {
				t.Fatalf("Render(%v, %d, %d) = %q; want %q", l, width, miser, got, s)
			}
		}
	})
	if fitting < 1000 {
		t.Errorf("only %d texts", fitting)
	}
	eachOps(t, chance{most: Mandatory, feeds: true, prefix: true}, func(l []Op, width, miser int) {
		l = slices.DeleteFunc(l, func(op Op) bool { return op.Kind == Newline })
		if s := flat(t, l); render(t, l, width, miser) != s {
			t.Fatalf("Render(%v, %d, %d) is not %q", l, width, miser, s)
		}
	})
}

func words(s string) string { return strings.NewReplacer(" ", "", "\n", "").Replace(s) }

// P9.3 and P9.5.
func TestWordsAndEnds(t *testing.T) {
	eachOps(t, chance{most: Mandatory, feeds: true}, func(l []Op, width, miser int) {
		if s := render(t, l, width, miser); words(s) != words(flat(t, l)) {
			t.Fatalf("Render(%v, %d, %d) = %q", l, width, miser, s)
		}
	})
	eachOps(t, chance{most: Mandatory, prefix: true}, func(l []Op, width, miser int) {
		if s := render(t, l, width, miser); strings.Contains(s, " \n") {
			t.Fatalf("Render(%v, %d, %d) = %q", l, width, miser, s)
		}
	})
}

// P9.4: in a single block each line feed comes from a Newline.
func TestBlocks(t *testing.T) {
	r := rand.New(rand.NewSource(2))
	for range 2000 {
		var names []string
		for range 1 + r.Intn(6) {
			names = append(names, strings.Repeat("x", r.Intn(5)))
		}
		width, miser := 1+r.Intn(30), r.Intn(30)
		feeds := func(kind int) int { return strings.Count(render(t, row(kind, names...), width, miser), "\n") }
		all := len(names) - 1
		long := len(flat(t, row(Linear, names...))) > width
		if n := feeds(Linear); n != 0 && n != all || (n > 0) != (long && all > 0) {
			t.Fatalf("%d of %d Linear newlines of %q break in %d", n, all, names, width)
		}
		if n := feeds(Mandatory); n != all {
			t.Fatalf("%d of %d Mandatory newlines of %q break", n, all, names)
		}
		want := 0
		if long && width-1 <= miser {
			want = all
		}
		if n := feeds(Miser); n != want {
			t.Fatalf("%d of %d Miser newlines of %q break in %d, %d", n, all, names, width, miser)
		}
	}
}
