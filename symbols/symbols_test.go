package symbols

import (
	"math"
	"slices"
	"strconv"
	"strings"
	"testing"

	"commonform/api"
)

// P10.1: the constants, and a new table.
func TestNew(t *testing.T) {
	if ErrClash != 120 || ErrUsed != 121 || ErrAccess != 122 || None != 0 || Internal != 1 || External != 2 || Inherited != 3 {
		t.Error("constants")
	}
	s := New()
	if l := s.Packages(); !slices.Equal(l, []string{"COMMON-LISP", "KEYWORD", "COMMON-LISP-USER"}) {
		t.Errorf("Packages = %v", l)
	}
	for name, p := range map[string]Package{
		"CL": {Name: "COMMON-LISP", Nicknames: []string{"CL"}, UsedBy: []string{"COMMON-LISP-USER"}}, "KEYWORD": {Name: "KEYWORD"}, "CL-USER": {Name: "COMMON-LISP-USER", Nicknames: []string{"CL-USER"}, Uses: []string{"COMMON-LISP"}},
	} {
		if got := known(t, s, name); !samePackage(got, p) || !samePackage(known(t, s, p.Name), p) {
			t.Errorf("Package(%q) = %v", name, got)
		}
	}
	if name, home, e := s.Symbol(0); name != "" || home != "" || e != api.ErrNone {
		t.Errorf("Symbol(0) = %q, %q, %v", name, home, e)
	}
}

// P10.1: a nil table, and one that New did not return.
func TestNil(t *testing.T) {
	for _, s := range []*Table{nil, {}} {
		if s.Packages() != nil || s.Text() != "" {
			t.Error("Packages and Text")
		}
		long := strings.Repeat("A", 61)
		n, status, e1 := s.Intern(long, long)
		m, state, e2 := s.Find("CL", "X")
		k, e3 := s.Fresh(long)
		name, home, e4 := s.Symbol(-1)
		p, e5 := s.Package(long)
		is, e6 := s.Unintern("CL", 0)
		if n != 0 || status != 0 || m != 0 || state != 0 || k != 0 || name+home != "" || !samePackage(p, Package{}) || is {
			t.Error("results")
		}
		for i, e := range []api.Errno{e1, e2, e3, e4, e5, e6, s.Make(long, nil, nil), s.Delete(long), s.Export("CL", 0), s.Unexport("CL", 0), s.Import(long, 0), s.Shadow(long, "X"), s.ShadowingImport("CL", 0), s.Use(long, "CL"), s.Unuse("CL", long)} {
			want(t, "function "+strconv.Itoa(i), e, api.ErrArg)
		}
	}
}

// P10.1: the texts and numbers that all functions look at first.
func TestArguments(t *testing.T) {
	s := table(t, "make P - -", "intern P X")
	limit, long := strings.Repeat("A", 60), strings.Repeat("A", 61)
	before := s.Text()
	for _, c := range []struct {
		pack, name string
		e          api.Errno
	}{
		{long, "X", api.ErrSize}, {"P", long, api.ErrSize}, {"NONE", long, api.ErrSize}, {"NONE", "X", api.ErrNone}, {limit, limit, api.ErrNone}, {"", "X", api.ErrNone}, {"p", "X", api.ErrNone},
	} {
		n, status, e := s.Intern(c.pack, c.name)
		m, state, f := s.Find(c.pack, c.name)
		if n != 0 || status != 0 || e != c.e || m != 0 || state != 0 || f != c.e {
			t.Errorf("Intern and Find of %.9q, %.9q: %v, %v; want %v", c.pack, c.name, e, f, c.e)
		}
		want(t, "Shadow", s.Shadow(c.pack, c.name), c.e)
		two := c.e
		if c.name == "X" || c.name == limit { // no package
			two = api.ErrNone
			if c.pack == long {
				two = api.ErrSize
			}
		}
		want(t, "Use", s.Use(c.pack, c.name), two)
		want(t, "Unuse", s.Unuse(c.pack, c.name), two)
	}
	for _, c := range []struct {
		pack   string
		symbol int
		e      api.Errno
	}{
		{long, 0, api.ErrSize}, {long, -1, api.ErrSize}, {"NONE", 0, api.ErrNone}, {"P", -1, api.ErrNone}, {"P", 1, api.ErrNone}, {"P", math.MaxInt, api.ErrNone}, {"P", math.MinInt, api.ErrNone}, {"KEYWORD", 1, api.ErrNone},
	} {
		is, e := s.Unintern(c.pack, c.symbol)
		if is {
			t.Error("Unintern with an error is true")
		}
		for i, e := range []api.Errno{e, s.Export(c.pack, c.symbol), s.Unexport(c.pack, c.symbol), s.Import(c.pack, c.symbol), s.ShadowingImport(c.pack, c.symbol)} {
			want(t, "function "+strconv.Itoa(i)+" of "+c.pack[:1]+" "+strconv.Itoa(c.symbol), e, c.e)
		}
		if name, home, e := s.Symbol(c.symbol); c.symbol != 0 && (name != "" || home != "" || e != api.ErrNone) {
			t.Errorf("Symbol(%d) = %q, %q, %v", c.symbol, name, home, e)
		}
	}
	for pack, e := range map[string]api.Errno{long: api.ErrSize, "NONE": api.ErrNone} {
		p, f := s.Package(pack)
		want(t, "Package", f, e)
		want(t, "Delete", s.Delete(pack), e)
		if !samePackage(p, Package{}) {
			t.Errorf("Package with an error = %v", p)
		}
	}
	n, e := s.Fresh(long)
	if want(t, "Fresh", e, api.ErrSize); n != 0 || s.Text() != before {
		t.Error("an error changed something")
	}
	if n, _, e := s.Intern("P", limit); n != 1 || e != api.OK {
		t.Errorf("Intern of a long name = %d, %v", n, e)
	}
	if n, _, e := s.Intern("P", "\xff\x00 "); n != 2 || e != api.OK {
		t.Errorf("Intern of odd bytes = %d, %v", n, e)
	}
}

// P10.1: Make and Delete.
func TestMake(t *testing.T) {
	limit, long := strings.Repeat("A", 60), strings.Repeat("A", 61)
	base := []string{"make P NICK,' CL", "make Q - -", "intern P X", "export P 0", "intern Q X", "export Q 1", "make R - -", "import R 0", "export R 0"}
	for _, c := range []struct {
		name        string
		nicks, uses []string
		e           api.Errno
	}{
		{"A", nil, nil, api.OK}, {limit, []string{limit[1:]}, nil, api.OK}, {"A", []string{"B", "C"}, []string{"CL-USER", "NICK", "R"}, api.OK}, {"A", nil, []string{""}, api.OK},
		{long, nil, nil, api.ErrSize}, {"", []string{long}, nil, api.ErrSize}, {"", nil, []string{long}, api.ErrSize}, {"", nil, []string{"NONE"}, api.ErrArg}, {"", []string{"P"}, nil, api.ErrArg},
		{"P", nil, nil, api.ErrTwice}, {"NICK", nil, nil, api.ErrTwice}, {"A", []string{"Q"}, nil, api.ErrTwice}, {"A", []string{""}, nil, api.ErrTwice}, {"A", []string{"A"}, nil, api.ErrTwice}, {"A", []string{"B", "B"}, nil, api.ErrTwice}, {"CL", nil, []string{"NONE"}, api.ErrTwice}, {"A", []string{"B", "NICK"}, []string{"KEYWORD"}, api.ErrTwice},
		{"A", nil, []string{"NONE"}, api.ErrNone}, {"A", nil, []string{"A"}, api.ErrNone}, {"A", []string{"B"}, []string{"B"}, api.ErrNone}, {"A", nil, []string{"KEYWORD"}, api.ErrArg}, {"A", nil, []string{"NONE", "KEYWORD"}, api.ErrNone}, {"A", nil, []string{"KEYWORD", "NONE"}, api.ErrArg}, {"A", nil, []string{"P", "P"}, api.ErrTwice}, {"A", nil, []string{"P", "NICK"}, api.ErrTwice}, {"A", nil, []string{"P", "Q"}, ErrClash}, {"A", nil, []string{"P", "R"}, api.OK}, {"A", nil, []string{"Q", "CL", "R"}, ErrClash}, {"A", nil, []string{"P", "Q", "P"}, api.ErrTwice},
	} {
		s := table(t, base...)
		before := s.Text()
		if e := s.Make(c.name, c.nicks, c.uses); e != c.e {
			t.Errorf("Make(%.9q, %q, %q) = %v; want %v", c.name, c.nicks, c.uses, e, c.e)
		}
		if c.e != api.OK {
			if s.Text() != before {
				t.Errorf("Make(%.9q, %q, %q) changed something", c.name, c.nicks, c.uses)
			}
			continue
		}
		for _, name := range append([]string{c.name}, c.nicks...) {
			p := known(t, s, name)
			var uses []string
			for _, use := range c.uses {
				uses = append(uses, known(t, s, use).Name)
			}
			if !samePackage(p, Package{Name: c.name, Nicknames: c.nicks, Uses: uses}) {
				t.Errorf("Package(%.9q) = %v", name, p)
			}
		}
		if l := s.Packages(); l[len(l)-1] != c.name || len(l) != 7 {
			t.Errorf("Packages = %v", l)
		}
	}
	s := New()
	nicks := []string{"N", "M"}
	want(t, "Make", s.Make("A", nicks, nil), api.OK)
	nicks[0] = "CHANGED"
	p := known(t, s, "A")
	p.Nicknames[1] = "CHANGED"
	if got := known(t, s, "N"); !slices.Equal(got.Nicknames, []string{"N", "M"}) {
		t.Errorf("Nicknames = %v", got.Nicknames)
	}
	for i := len(s.Packages()); i < 50; i++ {
		want(t, "Make", s.Make("P"+strconv.Itoa(i), nil, nil), api.OK)
	}
	want(t, "Make of the package 51", s.Make("LAST", nil, nil), api.ErrFull)
	want(t, "Make of the package 51 with an error", s.Make("LAST", nil, []string{"NONE"}), api.ErrNone)
	want(t, "Delete", s.Delete("M"), api.OK)
	want(t, "Make of the package 50", s.Make("M", []string{"A"}, nil), api.OK)
}

// P10.1: Delete.
func TestDelete(t *testing.T) {
	s := table(t, "make P N -", "make Q - P", "intern P X", "intern P Y", "export P 0", "import Q 1", "intern Q Z", "make R - P,Q", "import R 1")
	for _, name := range []string{"CL", "COMMON-LISP", "KEYWORD", "CL-USER", "COMMON-LISP-USER"} {
		want(t, "Delete of "+name, s.Delete(name), api.ErrArg)
	}
	want(t, "Delete of a used package", s.Delete("N"), ErrUsed)
	want(t, "Delete of a used package", s.Delete("Q"), ErrUsed)
	want(t, "Delete", s.Delete("R"), api.OK)
	want(t, "Unuse", s.Unuse("Q", "N"), api.OK)
	want(t, "Delete", s.Delete("N"), api.OK)
	for n, home := range []string{"", "", "Q"} {
		if _, h, e := s.Symbol(n); h != home || e != api.OK {
			t.Errorf("the home of %d is %q, %v", n, h, e)
		}
	}
	for _, name := range []string{"P", "N", "R"} {
		if _, e := s.Package(name); e != api.ErrNone {
			t.Errorf("Package(%q): %v", name, e)
		}
	}
	if l := s.Packages(); !slices.Equal(l, []string{"COMMON-LISP", "KEYWORD", "COMMON-LISP-USER", "Q"}) {
		t.Errorf("Packages = %v", l)
	}
	if n, status, e := s.Find("Q", "Y"); n != 1 || status != Internal || e != api.OK {
		t.Errorf("Find = %d, %d, %v", n, status, e)
	}
}

// P10.1: Intern, Find, Fresh and Symbol.
func TestIntern(t *testing.T) {
	s := table(t, "make P N -", "make Q - P")
	for i, c := range []struct {
		pack, name        string
		found, state      int
		interned, status2 int
	}{
		{"P", "X", -1, None, 0, None}, {"N", "X", 0, Internal, 0, Internal}, {"Q", "X", -1, None, 1, None}, {"KEYWORD", "X", -1, None, 2, None}, {"KEYWORD", "X", 2, External, 2, External}, {"P", "", -1, None, 3, None}, {"P", "x", -1, None, 4, None},
	} {
		n, status, e := s.Find(c.pack, c.name)
		m, state, f := s.Intern(c.pack, c.name)
		if n != c.found || status != c.state || e != api.OK || m != c.interned || state != c.status2 || f != api.OK {
			t.Errorf("the names %d: Find %d, %d, %v, Intern %d, %d, %v", i, n, status, e, m, state, f)
		}
	}
	want(t, "Export", s.Export("P", 3), api.OK)
	for pack, status := range map[string]int{"P": External, "Q": Inherited} {
		n, got, e := s.Intern(pack, "")
		if m, f, g := s.Find(pack, ""); n != 3 || got != status || e != api.OK || m != 3 || f != status || g != api.OK {
			t.Errorf("Intern and Find of an external symbol in %s = %d, %d, %v", pack, n, got, e)
		}
	}
	n, e := s.Fresh("X")
	name, home, f := s.Symbol(n)
	if n != 5 || e != api.OK || name != "X" || home != "" || f != api.OK {
		t.Errorf("Fresh = %d, %v, the symbol %q, %q, %v", n, e, name, home, f)
	}
	for n, home := range []string{"P", "Q", "KEYWORD", "P", "P"} {
		if _, got, e := s.Symbol(n); got != home || e != api.OK {
			t.Errorf("Symbol(%d) has the home %q, %v", n, got, e)
		}
	}
	for i := 6; i < api.MaxSymbols; i++ {
		if n, _, e := s.Intern("P", "S"+strconv.Itoa(i)); n != i || e != api.OK {
			t.Fatalf("Intern = %d, %v; want %d", n, e, i)
		}
	}
	before := s.Text()
	m, status, e := s.Intern("P", "LAST")
	k, f := s.Fresh("LAST")
	if m != 0 || status != 0 || e != api.ErrFull || k != 0 || f != api.ErrFull || s.Shadow("P", "LAST") != api.ErrFull || s.Text() != before {
		t.Errorf("with all symbols: Intern %d, %v, Fresh %d, %v", m, e, k, f)
	}
	if n, status, e := s.Intern("P", "X"); n != 0 || status != Internal || e != api.OK {
		t.Errorf("Intern of a symbol that is there = %d, %d, %v", n, status, e)
	}
	want(t, "Shadow of a symbol that is there", s.Shadow("P", "X"), api.OK)
}

// P10.1: Export, Unexport, Import, Shadow, ShadowingImport, Unintern, Use and Unuse: commands that make a table, one more with its error, and what is different then.
func TestCommands(t *testing.T) {
	base := []string{"make P - -", "make Q - P", "make R - -", "intern P X", "intern Q Y", "intern R X", "fresh Z"} // 0, 1, 2, 3
	for i, c := range []struct {
		before  []string
		command string
		e       api.Errno
		after   string // of the packages that changed: name, internal, external, shadowing, uses
		homes   string // of the symbols 0 to 3, if they changed
	}{
		{nil, "export P 0", api.OK, "P - 0 - -", ""}, {nil, "export P 1", ErrAccess, "", ""}, {nil, "export P 3", ErrAccess, "", ""}, {nil, "export R 0", ErrAccess, "", ""}, {[]string{"export P 0"}, "export P 0", api.OK, "", ""}, {[]string{"export P 0"}, "export Q 0", api.OK, "Q 1 0 - P", ""}, {[]string{"intern Q X"}, "export P 0", ErrClash, "", ""}, {[]string{"intern Q X", "shadow Q X"}, "export P 0", api.OK, "P - 0 - -", ""}, {[]string{"export R 2", "use Q R"}, "export P 0", ErrClash, "", ""}, {[]string{"import Q 0"}, "export P 0", api.OK, "P - 0 - -", ""}, {[]string{"export P 0", "import R 3", "export R 3", "use Q R", "unintern R 3"}, "export Q 0", api.OK, "Q 1 0 - P,R", ""},
		{[]string{"export R 2", "make S - R", "import Q 2", "export R 2", "unintern R 2"}, "export Q 2", api.OK, "Q 1 2 - P", ""},
		{[]string{"export P 0"}, "unexport P 0", api.OK, "P 0 - - -", ""}, {nil, "unexport P 0", api.OK, "", ""}, {[]string{"export P 0"}, "unexport Q 0", api.OK, "", ""}, {nil, "unexport Q 0", ErrAccess, "", ""}, {nil, "unexport R 0", ErrAccess, "", ""}, {[]string{"export R 2"}, "unexport R 0", ErrAccess, "", ""}, {nil, "unexport KEYWORD 0", ErrAccess, "", ""}, {[]string{"intern KEYWORD K"}, "unexport KEYWORD 4", api.ErrArg, "", ""}, {[]string{"import KEYWORD 3"}, "unexport KEYWORD 3", api.ErrArg, "", ""},
		{nil, "import R 1", api.OK, "R 1,2 - - -", ""}, {nil, "import R 0", ErrClash, "", ""}, {nil, "import P 0", api.OK, "", ""}, {[]string{"export P 0"}, "import P 0", api.OK, "", ""}, {[]string{"export P 0"}, "import Q 0", api.OK, "Q 0,1 - - P", ""}, {[]string{"export P 0"}, "import Q 2", ErrClash, "", ""}, {nil, "import Q 3", api.OK, "Q 1,3 - - P", "P Q R Q"}, {nil, "import KEYWORD 3", api.OK, "KEYWORD 3 - - -", "P Q R KEYWORD"}, {[]string{"shadow R X"}, "import R 0", ErrClash, "", ""}, {[]string{"import Q 0", "unintern P 0"}, "import Q 0", api.OK, "", ""}, {[]string{"import Q 0", "unintern P 0"}, "import P 0", api.OK, "P 0 - - -", "P Q R -"},
		{nil, "shadow P X", api.OK, "P 0 - 0 -", ""}, {nil, "shadow P Y", api.OK, "P 0,4 - 4 -", ""}, {[]string{"export P 0"}, "shadow P X", api.OK, "P - 0 0 -", ""}, {[]string{"export P 0"}, "shadow Q X", api.OK, "Q 1,4 - 4 P", ""}, {nil, "shadow KEYWORD K", api.OK, "KEYWORD 4 - 4 -", ""}, {[]string{"shadow P X"}, "shadow P X", api.OK, "", ""},
		{nil, "shadowing R 1", api.OK, "R 1,2 - 1 -", ""}, {nil, "shadowing R 0", api.OK, "R 0 - 0 -", "P Q - -"}, {[]string{"export R 2"}, "shadowing R 0", api.OK, "R 0 - 0 -", "P Q - -"}, {nil, "shadowing P 0", api.OK, "P 0 - 0 -", ""}, {[]string{"export P 0"}, "shadowing P 0", api.OK, "P - 0 0 -", ""}, {[]string{"export P 0"}, "shadowing Q 0", api.OK, "Q 0,1 - 0 P", ""}, {[]string{"export P 0"}, "shadowing Q 2", api.OK, "Q 1,2 - 2 P", ""}, {nil, "shadowing Q 3", api.OK, "Q 1,3 - 3 P", ""}, {[]string{"export R 2", "import P 1", "shadow Q X", "export P 0", "use Q R"}, "shadowing Q 0", api.OK, "Q 0,1 - 0 P,R", "P Q R -"}, {[]string{"shadow R X"}, "shadowing R 0", api.OK, "R 0 - 0 -", "P Q - -"},
		{nil, "unintern P 0", api.OK, "P - - - -", "- Q R -"}, {nil, "unintern P 2", api.OK, "", ""}, {nil, "unintern P 1", api.OK, "", ""}, {[]string{"export P 0"}, "unintern P 0", api.OK, "P - - - -", "- Q R -"}, {[]string{"export P 0"}, "unintern Q 0", api.OK, "", ""}, {[]string{"import R 1"}, "unintern R 1", api.OK, "R 2 - - -", ""}, {[]string{"shadow P X"}, "unintern P 0", api.OK, "P - - - -", "- Q R -"}, {[]string{"shadow Q X", "export P 0", "export R 2", "use Q R"}, "unintern Q 4", ErrClash, "", ""}, {[]string{"shadow Q X", "export P 0", "export R 2", "use Q R"}, "unintern Q 0", api.OK, "", ""}, {[]string{"shadow Q X", "export P 0"}, "unintern Q 4", api.OK, "Q 1 - - P", ""}, {[]string{"export P 0", "make S - -", "import S 0", "export S 0", "use Q S", "shadow Q X"}, "unintern Q 4", api.OK, "Q 1 - - P,S", ""},
		{nil, "use R P", api.OK, "R 2 - - P", ""}, {nil, "use Q P", api.OK, "", ""}, {nil, "use P P", api.ErrArg, "", ""}, {nil, "use P KEYWORD", api.ErrArg, "", ""}, {nil, "use KEYWORD P", api.OK, "KEYWORD - - - P", ""}, {nil, "use P Q", api.OK, "P 0 - - Q", ""}, {[]string{"export P 0"}, "use R P", ErrClash, "", ""}, {[]string{"export P 0", "shadow R X"}, "use R P", api.OK, "R 2 - 2 P", ""}, {[]string{"export P 0", "export R 2"}, "use Q R", ErrClash, "", ""}, {[]string{"export P 0", "export R 2", "shadow Q X"}, "use Q R", api.OK, "Q 1,4 - 4 P,R", ""}, {[]string{"export P 0", "make S - -", "import S 0", "export S 0"}, "use Q S", api.OK, "Q 1 - - P,S", ""}, {[]string{"export P 0", "shadow P X"}, "use R P", ErrClash, "", ""}, {nil, "use COMMON-LISP COMMON-LISP-USER", api.OK, "COMMON-LISP - - - COMMON-LISP-USER", ""},
		{nil, "unuse Q P", api.OK, "Q 1 - - -", ""}, {nil, "unuse R P", api.OK, "", ""}, {nil, "unuse P P", api.OK, "", ""}, {nil, "unuse P KEYWORD", api.OK, "", ""}, {[]string{"use Q R", "use Q CL"}, "unuse Q R", api.OK, "Q 1 - - P,COMMON-LISP", ""}, {nil, "unuse COMMON-LISP-USER CL", api.OK, "COMMON-LISP-USER - - - -", ""},
	} {
		s := table(t, append(slices.Clone(base), c.before...)...)
		packages, symbols := shown(t, s)
		if e := perform(s, c.command); e != c.e {
			t.Errorf("the command %d, %s after %q: %v; want %v", i, c.command, c.before, e, c.e)
		}
		after, homes := shown(t, s)
		var changed []string
		for _, line := range after {
			if !slices.Contains(packages, line) {
				changed = append(changed, line)
			}
		}
		if c.homes == "" {
			c.homes = symbols
		}
		if strings.Join(changed, "; ") != c.after || homes != c.homes {
			t.Errorf("the command %d, %s after %q: %q, %s; want %q, %s", i, c.command, c.before, changed, homes, c.after, c.homes)
		}
	}
	s := table(t, "make P - -", "intern P X", "export P 0", "make Q - -", "intern Q X", "export Q 1", "make R - -", "shadow R X", "use R P", "use R Q")
	if is, e := s.Unintern("R", 2); is || e != ErrClash {
		t.Errorf("Unintern of what shadows a conflict = %v, %v", is, e)
	}
	first, e := s.Unintern("P", 0)
	second, f := s.Unintern("P", 0)
	if !first || second || e != api.OK || f != api.OK {
		t.Errorf("Unintern twice = %v, %v, then %v, %v", first, e, second, f)
	}
}

// shown returns a line for each package, and the homes of the first four symbols.
func shown(t *testing.T, s *Table) ([]string, string) {
	var lines []string
	for _, name := range s.Packages() {
		p := known(t, s, name)
		lines = append(lines, strings.Join([]string{name, numbersText(p.Internal), numbersText(p.External), numbersText(p.Shadowing), listText(p.Uses)}, " "))
	}
	var homes []string
	for n := range 4 {
		_, home, _ := s.Symbol(n)
		if home == "" {
			home = "-"
		}
		homes = append(homes, home)
	}
	return lines, strings.Join(homes, " ")
}
