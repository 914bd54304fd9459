package symbols

import (
	"slices"
	"strconv"
	"strings"
	"testing"

	"commonform/api"
)

// first are the lines of the first packages of a table, with other fields behind their names.
func first(common, keyword, user string) string {
	return "package x434f4d4d4f4e2d4c495350 x434c " + common + "\npackage x4b4559574f5244 - " + keyword + "\npackage x434f4d4d4f4e2d4c4953502d55534552 x434c2d55534552 " + user + "\n"
}

const (
	none      = "- - - -"
	usesLisp  = "x434f4d4d4f4e2d4c495350 - - -"
	usesLispA = "x434f4d4d4f4e2d4c495350,x41 - - -"
)

// P10.1: Text.
func TestText(t *testing.T) {
	if s := New().Text(); s != first(none, none, usesLisp) {
		t.Errorf("Text = %q", s)
	}
	s := table(t, "make A B,' CL-USER,CL", "intern A X", "intern KEYWORD K", "shadow A Y", "export A 2", "fresh '", "import CL-USER 0", "intern A Z")
	if _, _, e := s.Intern("A", "\x00\xff"); e != api.OK {
		t.Fatal(e)
	}
	want := "symbol x58 x41\nsymbol x4b x4b4559574f5244\nsymbol x59 x41\nsymbol x -\nsymbol x5a x41\nsymbol x00ff x41\n" + first(none, "- - 1 -", "x434f4d4d4f4e2d4c495350 0 - -") + "package x41 x42,x x434f4d4d4f4e2d4c4953502d55534552,x434f4d4d4f4e2d4c495350 0,4,5 2 2\n"
	if got := s.Text(); got != want {
		t.Errorf("Text = %q; want %q", got, want)
	}
	u, e := Parse(want)
	if e != api.OK || u.Text() != want {
		t.Errorf("Parse: %v", e)
	}
}

// P10.1: Parse, for texts that are right and for those that are not.
func TestParse(t *testing.T) {
	usual := first(none, none, usesLisp)
	long := strings.Repeat("41", 61)
	var packages, symbols []string
	for i := range 51 {
		packages = append(packages, "package x"+strings.Repeat("41", i+1)+" - "+none+"\n")
	}
	for range 1001 {
		symbols = append(symbols, "symbol x -\n")
	}
	join := func(l []string) string { return strings.Join(l, "") }
	right := []string{
		usual, first(none, none, none), first(none, "x434f4d4d4f4e2d4c495350 - - -", usesLisp), first("x434f4d4d4f4e2d4c4953502d55534552 - - -", none, usesLisp),
		usual + "package x41 x42,x43 - - - -\n", usual + "package x41 x - - - -\n", first(none, none, usesLispA) + "package x41 - - - - -\n", usual + "package x" + long[2:] + " x" + long[4:] + " - - - -\n", usual + join(packages[:47]), join(symbols[:1000]) + usual,
		"symbol x58 -\n" + usual, "symbol x58 -\n" + first("- 0 - -", none, usesLisp), "symbol x58 x434f4d4d4f4e2d4c495350\n" + first("- - 0 -", none, usesLisp), "symbol x58 x434f4d4d4f4e2d4c495350\n" + first("- - 0 0", "- 0 - -", usesLisp), "symbol x -\nsymbol x -\n" + first("- 0 - -", "- 1 - 1", usesLisp), "symbol x" + long[2:] + " -\n" + usual, "symbol x58 -\nsymbol x59 -\n" + first("- 0,1 - -", none, usesLisp), "symbol x58 -\nsymbol x58 -\n" + first("- - 0 -", none, "x434f4d4d4f4e2d4c495350 1 - 1"),
		"symbol x58 -\nsymbol x58 -\nsymbol x58 -\n" + first("- - 0 -", none, "x434f4d4d4f4e2d4c495350,x41 2 - 2") + "package x41 - - - 1 -\n", "symbol x58 -\n" + first("- - 0 -", none, usesLispA) + "package x41 - - - 0 -\n",
	}
	for _, s := range right {
		u, e := Parse(s)
		if e != api.OK || u.Text() != s {
			t.Errorf("Parse(%.300q): %v", s, e)
		}
	}
	wrong := []string{
		"", "\n", usual[1:], strings.TrimSuffix(usual, "\n"), usual + "\n", "\n" + usual, strings.ReplaceAll(usual, "\n", "\r\n"), strings.Replace(usual, " ", "  ", 1), usual + " ", strings.ToUpper(usual), usual + "x\n", usual + "symbol x58 -\n", strings.Replace(usual, "\n", " \n", 1), usual + "packages x41 - - - - -\n",
		strings.Join(strings.SplitAfter(usual, "\n")[:2], ""), strings.Join(strings.SplitAfter(usual, "\n")[1:], ""), strings.Replace(usual, "x434c ", "- ", 1), strings.Replace(usual, "x434c ", "x434c,x41 ", 1), strings.Replace(usual, "x4b4559574f5244 -", "x4b4559574f5244 x41", 1), strings.Replace(usual, "x434c2d55534552", "-", 1),
		usual + "package x - - - - -\n", usual + "package - - - - - -\n", usual + "package x41 x41 - - - -\n", usual + "package x41 x42,x42 - - - -\n", usual + "package x434c - - - - -\n", usual + "package x41 x4b4559574f5244 - - - -\n", usual + "package x41 - - - - -\npackage x41 - - - - -\n", usual + "package x41 - - - -\n", usual + "package x41 - - - - - -\n", usual + "package x41 , - - - -\n", usual + "package x41  - - - -\n", usual + "package 41 - - - - -\n", usual + "package x4 - - - - -\n", usual + "package x4A - - - - -\n", usual + "package x4g - - - - -\n", usual + "package x+4 - - - - -\n", usual + "package xx41 - - - - -\n", usual + "package x" + long + " - - - - -\n", usual + "package x41 x" + long + " - - - -\n", usual + join(packages[:48]), join(symbols) + usual,
		usual + "package x41 - x41 - - -\n", usual + "package x41 - x4b4559574f5244 - - -\n", usual + "package x41 - x42 - - -\n", usual + "package x41 - x434c - - -\n", usual + "package x41 - x434f4d4d4f4e2d4c495350,x434f4d4d4f4e2d4c495350 - - -\n", usual + "package x41 - x - - -\n", usual + "package x41 x x - - -\n",
		"symbol x58\n" + usual, "symbol x58 - -\n" + usual, "symbol 58 -\n" + usual, "symbol - -\n" + usual, "symbol x5 -\n" + usual, "symbol x5A -\n" + usual, "symbol x" + long + " -\n" + usual, "symbol x58 x\n" + usual, "symbol x58 x41\n" + usual, "symbol x58 x434f4d4d4f4e2d4c495350\n" + usual, "symbol x58 x434c\n" + first("- 0 - -", none, usesLisp), "symbol x58 x434f4d4d4f4e2d4c495350\n" + first("- - - -", "- 0 - -", usesLisp), "symbol x58 434c\n" + first("- 0 - -", none, usesLisp), "symbols x58 -\n" + usual, "symbol x58 -\npackage" + usual,
		first("- 0 - -", none, usesLisp), "symbol x58 -\n" + first("- 1 - -", none, usesLisp), "symbol x58 -\n" + first("- -1 - -", none, usesLisp), "symbol x58 -\n" + first("- 00 - -", none, usesLisp), "symbol x58 -\n" + first("- +0 - -", none, usesLisp), "symbol x58 -\n" + first("- x - -", none, usesLisp), "symbol x58 -\n" + first("- 0 0 -", none, usesLisp), "symbol x58 -\n" + first("- 0,0 - -", none, usesLisp), "symbol x58 -\n" + first("- - - 0", none, usesLisp), "symbol x58 -\n" + first("- 0 - 0,0", none, usesLisp), "symbol x58 -\nsymbol x58 -\n" + first("- 0,1 - -", none, usesLisp), "symbol x58 -\nsymbol x58 -\n" + first("- 0 1 -", none, usesLisp), "symbol x58 -\nsymbol x59 -\n" + first("- 1,0 - -", none, usesLisp), "symbol x58 -\nsymbol x58 -\n" + first("- 0 - 1", none, usesLisp), "symbol x58 -\nsymbol x59 -\n" + first("- 0,1 - 1,0", none, usesLisp), "symbol x58 -\n" + first("- 99999999999999999999 - -", none, usesLisp), "symbol x58 -\n" + first("- 0 x -", none, usesLisp), "symbol x58 -\n" + first("- 0 - x", none, usesLisp), "symbol x58 -\n" + first("- 0, - -", none, usesLisp),
		"symbol x58 -\nsymbol x58 -\n" + first("- - 0 -", none, "x434f4d4d4f4e2d4c495350 1 - -"), "symbol x58 -\nsymbol x58 -\n" + first("- - 0 0", none, "x434f4d4d4f4e2d4c495350 1 - -"), "symbol x58 -\nsymbol x58 -\n" + first("- - 0 -", none, "x434f4d4d4f4e2d4c495350,x41 - - -") + "package x41 - - - 1 -\n", "symbol x58 -\nsymbol x58 -\nsymbol x58 -\n" + first("- - 0 -", none, "x434f4d4d4f4e2d4c495350,x41 2 - -") + "package x41 - - - 1 -\n",
	}
	for _, s := range wrong {
		if u, e := Parse(s); u != nil || e != api.ErrForm {
			t.Errorf("Parse(%.300q): %v", s, e)
		}
	}
	for n, e := range map[int]api.Errno{200000: api.ErrForm, 200001: api.ErrSize} {
		if u, f := Parse(strings.Repeat("x", n)); u != nil || f != e {
			t.Errorf("Parse of %d bytes: %v; want %v", n, f, e)
		}
	}
}

// P10.6: the greatest table whose text can be parsed.
func TestGreatTable(t *testing.T) {
	s := New()
	for i := len(s.Packages()); i < 50; i++ {
		want(t, "Make", s.Make("P"+strconv.Itoa(i), nil, nil), api.OK)
	}
	for i := range api.MaxSymbols {
		if _, _, e := s.Intern(s.Packages()[i%50], strings.Repeat("N", i%50)+strconv.Itoa(i)); e != api.OK {
			t.Fatal(e)
		}
	}
	u, e := Parse(s.Text())
	if e != api.OK || u.Text() != s.Text() || !slices.Equal(u.Packages(), s.Packages()) {
		t.Errorf("Parse of %d bytes: %v", len(s.Text()), e)
	}
	want(t, "Make", u.Make("P", nil, nil), api.ErrFull)
}
