package token

import (
	"strings"
	"testing"

	"commonform/api"
)

// P6.1: Split.
func TestSplit(t *testing.T) {
	for _, c := range []struct {
		s    string
		want Name
		e    api.Errno
	}{
		{"x", Name{Symbol, "", "X"}, api.OK}, {"||", Name{Symbol, "", ""}, api.OK}, {`a\:b`, Name{Symbol, "", "A:B"}, api.OK}, {"|a:b::c|", Name{Symbol, "", "a:b::c"}, api.OK}, {`\.`, Name{Symbol, "", "."}, api.OK}, {"a.", Name{Symbol, "", "A."}, api.OK},
		{":x", Name{Keyword, "", "X"}, api.OK}, {":||", Name{Keyword, "", ""}, api.OK}, {"||:", Name{Keyword, "", ""}, api.OK}, {`:a\:`, Name{Keyword, "", "A:"}, api.OK}, {":..", Name{Keyword, "", ".."}, api.OK},
		{"pkg:x", Name{External, "PKG", "X"}, api.OK}, {"pkg::x", Name{Internal, "PKG", "X"}, api.OK}, {`a\:b:c`, Name{External, "A:B", "C"}, api.OK}, {`a::|:|b`, Name{Internal, "A", ":B"}, api.OK}, {"|p q|:r", Name{External, "p q", "R"}, api.OK}, {"é:ß", Name{External, "é", "ß"}, api.OK},
		{".", Name{}, ErrDots}, {"...", Name{}, ErrDots},
		{":", Name{}, ErrMarker}, {"::", Name{}, ErrMarker}, {":::x", Name{}, ErrMarker}, {"::x", Name{}, ErrMarker}, {"a:", Name{}, ErrMarker}, {"a::", Name{}, ErrMarker}, {"a:b:c", Name{}, ErrMarker}, {":a:b", Name{}, ErrMarker}, {"a:b:", Name{}, ErrMarker}, {"a:::b", Name{}, ErrMarker}, {"a:||", Name{}, ErrMarker}, {"a::||", Name{}, ErrMarker}, {"||::a", Name{}, ErrMarker}, {"::||", Name{}, ErrMarker}, {":a:", Name{}, ErrMarker},
	} {
		x, _, e := Next(Table{}, c.s, 0)
		if e != api.OK {
			t.Fatalf("Next(%q): %v", c.s, e)
		}
		if n, e := Split(x); n != c.want || e != c.e {
			t.Errorf("Split of %q = %v, %v; want %v, %v", c.s, n, e, c.want, c.e)
		}
	}
	if n, e := Split(Token{}); n != (Name{}) || e != api.OK {
		t.Errorf("Split of an empty token = %v, %v", n, e)
	}
	for _, x := range wrongTokens() {
		if n, e := Split(x); e != api.ErrArg || n != (Name{}) {
			t.Errorf("Split of a wrong token = %v, %v", n, e)
		}
	}
}

// P6.6.
func TestMarkers(t *testing.T) {
	eachChance(t, func(x Table, r chance) {
		k, _, e := Next(x, strings.ReplaceAll(r.text(6)+":"+r.text(6), " ", "a"), 0)
		if e != api.OK {
			return
		}
		n, e := Split(k)
		free := 0
		for i, c := range k.Chars {
			if c == ':' && !k.Escaped[i] {
				free++
			}
		}
		switch {
		case free == 0 && Dots(k) == 0:
			if e != api.OK || n != (Name{Symbol, "", Text(k)}) {
				t.Fatalf("Split of %q = %v, %v", Text(k), n, e)
			}
		case e != api.OK:
		case n.Kind == Keyword && ":"+n.Name != Text(k), n.Kind == External && n.Package+":"+n.Name != Text(k), n.Kind == Internal && n.Package+"::"+n.Name != Text(k), n.Kind == Symbol:
			t.Fatalf("Split of %q = %v", Text(k), n)
		}
	})
}

// P6.1: Potential.
func TestPotential(t *testing.T) {
	for _, c := range []struct {
		s    string
		base int
		want bool
	}{
		{"1", 10, true}, {"0", 2, true}, {"9", 10, true}, {"+1", 10, true}, {"-1", 10, true}, {"1/2", 10, true}, {"1e5", 10, true}, {"-.5", 10, true}, {"12_3", 10, true}, {"^1", 10, true}, {"_1", 10, true}, {".1", 10, true}, {"1.", 10, true}, {"1/", 10, true}, {"1^", 10, true}, {"1e", 10, true}, {"1-e2", 10, true}, {"1a2b3", 10, true}, {"+-/.^_1", 10, true}, {"9", 2, true}, {"1a", 2, true},
		{"ff", 16, true}, {"FF", 16, true}, {"ffg", 16, true}, {"zz", 36, true}, {"a", 11, true}, {"a+b", 12, true}, {"fgf", 16, true},
		{"", 10, false}, {"+", 10, false}, {"-", 10, false}, {".", 10, false}, {"1+", 10, false}, {"1-", 10, false}, {"/1", 10, false}, {"abc", 10, false}, {"1ab", 10, false}, {"a1", 10, false}, {"ff", 10, false}, {"b", 11, false}, {"fggf", 16, false}, {"1:2", 10, false}, {"1 2", 10, false}, {"1é", 10, false}, {"é1", 10, false}, {"+e", 10, false}, {"１", 10, false}, {"1`", 10, false}, {"1@", 10, false}, {"1[", 10, false}, {"1{", 10, false}, {"1!", 10, false}, {"g1", 16, false}, {"1+e+", 10, false},
	} {
		if is, e := Potential(c.s, c.base); is != c.want || e != api.OK {
			t.Errorf("Potential(%q, %d) = %v, %v; want %v", c.s, c.base, is, e, c.want)
		}
	}
	long := strings.Repeat("1", api.MaxSource)
	for _, c := range []struct {
		s    string
		base int
		want api.Errno
	}{
		{"1", 1, api.ErrArg}, {"1", 37, api.ErrArg}, {"1", -10, api.ErrArg}, {"\xff", 37, api.ErrForm}, {long + "1", 37, api.ErrSize}, {long, 2, api.OK}, {"1", 36, api.OK}, {"1", 2, api.OK},
	} {
		if is, e := Potential(c.s, c.base); e != c.want || is != (e == api.OK) {
			t.Errorf("Potential(%.9q, %d) = %v, %v; want %v", c.s, c.base, is, e, c.want)
		}
	}
}

// P6.1: Back.
func TestBack(t *testing.T) {
	for s, want := range map[string][4]string{
		"FOO": {"foo", "FOO", "FOO", "foo"}, "foo": {"foo", "FOO", "foo", "FOO"}, "Foo": {"foo", "FOO", "Foo", "Foo"}, "": {}, "É|a": {"É|a", "É|A", "É|a", "É|A"}, "a.B": {"a.b", "A.B", "a.B", "a.B"},
	} {
		for _, mode := range modes() {
			if got, e := Back(Table{Case: mode}, s); got != want[mode] || e != api.OK {
				t.Errorf("Back(%d, %q) = %q, %v; want %q", mode, s, got, e, want[mode])
			}
		}
	}
}

// P6.1: Escaped.
func TestEscaped(t *testing.T) {
	odd := table(t, Upcase, '!', Single, '?', Multiple, '$', White)
	swapped := table(t, Upcase, '|', Single, '\\', Multiple)
	late := table(t, Upcase, '|', Constituent, '\\', Constituent, '~', Multiple, '}', Single)
	for _, c := range []struct {
		x    Table
		name string
		base int
		want string
	}{
		{Table{}, "FOO", 10, "foo"}, {Table{}, "foo", 10, "|foo|"}, {Table{}, "Foo", 10, "|Foo|"}, {Table{}, "1+", 10, "1+"}, {Table{}, "12", 10, "|12|"}, {Table{}, "FF", 10, "ff"}, {Table{}, "FF", 16, "|FF|"}, {Table{}, "A|B", 10, `|A\|B|`}, {Table{}, `A\B`, 10, `|A\\B|`}, {Table{}, ".", 10, "|.|"}, {Table{}, "..", 10, "|..|"}, {Table{}, "", 10, "||"}, {Table{}, "A B", 10, "|A B|"}, {Table{}, "A:B", 10, "|A:B|"}, {Table{}, ":A", 10, "|:A|"}, {Table{}, "(", 10, "|(|"}, {Table{}, "#A", 10, "|#A|"}, {Table{}, "A#", 10, "a#"}, {Table{}, "\x01", 10, "|\x01|"}, {Table{}, "É", 10, "É"}, {Table{}, "+", 10, "+"}, {Table{}, "A'", 10, "|A'|"},
		{Table{Case: Downcase}, "foo", 10, "FOO"}, {Table{Case: Downcase}, "FOO", 10, "|FOO|"}, {Table{Case: Preserve}, "Foo", 10, "Foo"}, {Table{Case: Invert}, "FOO", 10, "foo"}, {Table{Case: Invert}, "foo", 10, "FOO"}, {Table{Case: Invert}, "Foo", 10, "Foo"},
		{odd, "a", 10, "?a?"}, {odd, `a?\b`, 10, `?a!?!\b?`}, {odd, "A!", 10, "?A!!?"}, {odd, "A$", 10, "?A$?"}, {odd, "a|", 10, "?a!|?"},
		{swapped, `a|\`, 10, `\a|||\\`}, {late, "a", 10, "~a~"}, {late, "a~}", 10, "~a}~}}~"}, {late, `A|\`, 10, `a|\`},
		{table(t, Upcase, '\\', Constituent), "a", 10, "|a|"}, {table(t, Upcase, '|', Constituent), "A", 10, "a"}, {table(t, Upcase, 'b', Multiple), "a", 10, "bab"}, {table(t, Upcase, 'é', Multiple, '|', Constituent), "a", 10, "éaé"},
	} {
		if got, e := Escaped(c.x, c.name, c.base); got != c.want || e != api.OK {
			t.Errorf("Escaped(%v, %q, %d) = %q, %v; want %q", c.x, c.name, c.base, got, e, c.want)
		}
	}
}

// P6.1: the errors of Back, Escaped and Written, and their order.
func TestWriteErrors(t *testing.T) {
	long := strings.Repeat("A", api.MaxSource)
	noBars, noSingle := table(t, Upcase, '|', Constituent), table(t, Upcase, '\\', Constituent)
	for _, c := range []struct {
		x    Table
		name string
		base int
		want api.Errno
	}{
		{Table{}, long, 10, api.OK}, {Table{}, long + "A", 10, api.ErrSize}, {Table{}, "\xff", 37, api.ErrForm}, {Table{}, "A", 37, api.ErrArg}, {Table{}, "A", 1, api.ErrArg}, {Table{Case: 4}, "\xff", 1, api.ErrArg}, {Table{Entries: make([]Entry, 65)}, "\xff", 1, api.ErrSize},
		{noBars, "A", 10, api.OK}, {noBars, "a", 10, api.ErrNone}, {noBars, "a", 1, api.ErrArg}, {noBars, "", 10, api.ErrNone}, {noSingle, "a", 10, api.OK}, {noSingle, "a|", 10, api.ErrNone}, {noSingle, `A\`, 10, api.OK},
	} {
		if s, e := Escaped(c.x, c.name, c.base); e != c.want || (s == "") == (e == api.OK) {
			t.Errorf("Escaped(%v, %.9q, %d) = %.9q, %v; want %v", c.x, c.name, c.base, s, e, c.want)
		}
		if s, e := Written(c.x, Name{Name: c.name}, c.base); e != c.want || (s == "") == (e == api.OK) {
			t.Errorf("Written(%v, %.9q, %d) = %.9q, %v; want %v", c.x, c.name, c.base, s, e, c.want)
		}
		if s, e := Written(c.x, Name{Internal, c.name, "B"}, c.base); c.name != "" && (e != c.want || (s == "") == (e == api.OK)) {
			t.Errorf("Written(%v, the package %.9q, %d) = %.9q, %v; want %v", c.x, c.name, c.base, s, e, c.want)
		}
		want := c.want
		if want == api.ErrNone || c.base < 2 || c.base > 36 {
			want = Check(c.x)
			if _, e := Plain(c.name); want == api.OK {
				want = e
			}
		}
		if s, e := Back(c.x, c.name); e != want || e != api.OK && s != "" {
			t.Errorf("Back(%v, %.9q) = %.9q, %v; want %v", c.x, c.name, s, e, want)
		}
	}
}

// P6.1: Written.
func TestWritten(t *testing.T) {
	long := strings.Repeat("A", api.MaxSource)
	white, after, single := table(t, Upcase, ':', White), table(t, Upcase, ':', Nonterminating), table(t, Upcase, ':', Single)
	noBars := table(t, Invert, '|', Constituent)
	for _, c := range []struct {
		x    Table
		n    Name
		want string
		e    api.Errno
	}{
		{Table{}, Name{Symbol, "", "FOO"}, "foo", api.OK}, {Table{}, Name{Symbol, "", ""}, "||", api.OK}, {Table{}, Name{Keyword, "", "FOO"}, ":foo", api.OK}, {Table{}, Name{Keyword, "", ""}, ":||", api.OK}, {Table{}, Name{Keyword, "", "12"}, ":|12|", api.OK},
		{Table{}, Name{External, "P", "X"}, "p:x", api.OK}, {Table{}, Name{Internal, "P", "x"}, "p::|x|", api.OK}, {Table{}, Name{Internal, "a", ":"}, "|a|::|:|", api.OK}, {Table{}, Name{External, "1", "2"}, "|1|:|2|", api.OK},
		{Table{Case: Invert}, Name{External, "FOO", "bar"}, "|FOO|:|bar|", api.OK}, {Table{Case: Invert}, Name{External, "FOO", "BAR"}, "foo:bar", api.OK}, {Table{Case: Invert}, Name{Internal, "Foo", "bar"}, "|Foo|::|bar|", api.OK}, {Table{Case: Invert}, Name{Internal, "F O", "bar"}, "|F O|::BAR", api.OK}, {Table{Case: Invert}, Name{Internal, "A1", "Bar|"}, `a1::|Bar\||`, api.OK},
		{Table{Case: Invert}, Name{External, "A", "b|"}, `a:|b\||`, api.OK},
		{Table{}, Name{4, "", "A"}, "", api.ErrArg}, {Table{}, Name{-1, "", "A"}, "", api.ErrArg}, {Table{}, Name{Symbol, "P", "A"}, "", api.ErrArg}, {Table{}, Name{Keyword, "P", "A"}, "", api.ErrArg}, {Table{}, Name{External, "", "A"}, "", api.ErrArg}, {Table{}, Name{Internal, "", "A"}, "", api.ErrArg}, {Table{}, Name{External, "P", ""}, "", api.ErrArg}, {Table{}, Name{Internal, "P", ""}, "", api.ErrArg}, {Table{}, Name{Symbol, "P", "\xff"}, "", api.ErrArg}, {Table{Entries: make([]Entry, 65)}, Name{Symbol, "P", "A"}, "", api.ErrSize},
		{Table{}, Name{External, long + "A", "\xff"}, "", api.ErrSize}, {Table{}, Name{External, "\xff", long + "A"}, "", api.ErrForm}, {Table{}, Name{External, "A", long + "A"}, "", api.ErrSize},
		{white, Name{Symbol, "", "A"}, "a", api.OK}, {white, Name{Keyword, "", "A"}, "", api.ErrNone}, {white, Name{External, "P", "A"}, "", api.ErrNone}, {white, Name{Internal, "P", "\xff"}, "", api.ErrForm}, {single, Name{Internal, "P", "A"}, "", api.ErrNone},
		{after, Name{Symbol, "", "A"}, "a", api.OK}, {after, Name{Keyword, "", "A"}, "", api.ErrNone}, {after, Name{External, "P", "A"}, "p:a", api.OK}, {after, Name{Internal, "P", "A"}, "p::a", api.OK},
		{noBars, Name{External, "FOO", "BAR"}, "foo:bar", api.OK}, {noBars, Name{External, "FOO", "bar"}, "", api.ErrNone},
	} {
		if s, e := Written(c.x, c.n, 10); s != c.want || e != c.e {
			t.Errorf("Written(%v, %.20v) = %.20q, %v; want %q, %v", c.x, c.n, s, e, c.want, c.e)
		}
	}
	// a text that is too long is not read as the symbol
	half := long[:api.MaxSource/2]
	if s, e := Written(Table{}, Name{External, half, half}, 10); s != "|"+half+"|:|"+half+"|" || e != api.OK {
		t.Errorf("Written of long names = %.9q, %v", s, e)
	}
	if s, e := Written(Table{}, Name{External, half, half[1:]}, 10); s != strings.ToLower(half+":"+half[1:]) || e != api.OK {
		t.Errorf("Written of long names = %.9q, %v", s, e)
	}
	if s, e := Written(Table{}, Name{External, "FF", "AG"}, 16); s != "|FF|:|AG|" || e != api.OK {
		t.Errorf("Written in the base 16 = %q, %v", s, e)
	}
	noSingle := table(t, Invert, '\\', Constituent)
	if s, e := Written(noSingle, Name{External, "A|", "b"}, 10); s != "" || e != api.ErrNone {
		t.Errorf("Written without a Single character = %q, %v", s, e)
	}
}

// P6.5.
func TestThereAndBack(t *testing.T) {
	eachChance(t, func(x Table, r chance) {
		base, name := 2+r.Intn(35), r.text(6)
		s, e := Escaped(x, name, base)
		if e == api.OK {
			behind := ""
			if l := whites(x); len(l) > 0 {
				behind = string(l[r.Intn(len(l))]) + r.text(4)
			}
			k, end, e := Next(x, s+behind, 0)
			if e != api.OK || end != len(s) || Text(k) != name || Dots(k) > 0 {
				t.Fatalf("Next(%v, %q) = %v, %d, %v; want %q", x, s+behind, k, end, e, name)
			}
			if is, _ := Potential(name, base); is && !k.Escapes {
				t.Fatalf("Escaped(%v, %q, %d) = %q", x, name, base, s)
			}
			if n, e := Split(k); e != api.OK || n != (Name{Symbol, "", name}) {
				t.Fatalf("Split of %q = %v, %v", s, n, e)
			}
		} else if e != api.ErrNone {
			t.Fatalf("Escaped(%v, %q, %d): %v", x, name, base, e)
		}
		n := Name{Kind: r.Intn(4), Name: name}
		if n.Kind >= External {
			n.Package, n.Name = "p"+r.text(3), name+"q"
		}
		s, e = Written(x, n, base)
		if e != api.OK {
			return
		}
		k, end, e := Next(x, s, 0)
		if read, f := Split(k); e != api.OK || f != api.OK || end != len(s) || read != n {
			t.Fatalf("Written(%v, %v, %d) = %q, read as %v, %v", x, n, base, s, read, f)
		}
	})
}

// P6.5: only where it has to be is a name written with bars.
func TestFewBars(t *testing.T) {
	eachChance(t, func(x Table, r chance) {
		base, name := 2+r.Intn(35), r.text(4)
		plain, _ := Back(x, name)
		k, end, e := Next(x, plain, 0)
		potential, _ := Potential(name, base)
		n, f := Split(k)
		bare := e == api.OK && f == api.OK && end == len(plain) && Text(k) == name && n.Kind == Symbol && !k.Escapes && !potential
		s, e := Escaped(x, name, base)
		if bare != (s == plain && e == api.OK) {
			t.Fatalf("Escaped(%v, %q, %d) = %q, %v", x, name, base, s, e)
		}
	})
}
