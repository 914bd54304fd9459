package symbols

import (
	"math/rand"
	"slices"
	"strconv"
	"strings"
	"testing"

	"commonform/api"
)

// want reports an error that is not the one that is wanted.
func want(t *testing.T, what string, e, wanted api.Errno) {
	t.Helper()
	if e != wanted {
		t.Errorf("%s: %v; want %v", what, e, wanted)
	}
}

// table returns a table after some commands, which have to succeed: words with spaces between them.
func table(t *testing.T, commands ...string) *Table {
	t.Helper()
	s := New()
	for _, command := range commands {
		if e := perform(s, command); e != api.OK {
			t.Fatalf("%s: %v", command, e)
		}
	}
	return s
}

// perform does what a command says. A ' stands for the empty text, lists have commas.
func perform(s *Table, command string) api.Errno {
	w := append(strings.Fields(command), "", "", "")
	for i := range w {
		w[i] = strings.ReplaceAll(w[i], "'", "")
	}
	list := func(text string) []string {
		if text == "" || text == "-" {
			return nil
		}
		return strings.Split(text, ",")
	}
	n, _ := strconv.Atoi(w[2])
	var e api.Errno
	switch w[0] {
	case "make":
		e = s.Make(w[1], list(w[2]), list(w[3]))
	case "delete":
		e = s.Delete(w[1])
	case "intern":
		_, _, e = s.Intern(w[1], w[2])
	case "export":
		e = s.Export(w[1], n)
	case "unexport":
		e = s.Unexport(w[1], n)
	case "import":
		e = s.Import(w[1], n)
	case "shadow":
		e = s.Shadow(w[1], w[2])
	case "shadowing":
		e = s.ShadowingImport(w[1], n)
	case "unintern":
		_, e = s.Unintern(w[1], n)
	case "use":
		e = s.Use(w[1], w[2])
	case "unuse":
		e = s.Unuse(w[1], w[2])
	case "fresh":
		_, e = s.Fresh(w[1])
	default:
		panic("no command " + command)
	}
	return e
}

// chanceCommand makes a command by chance, which need not be possible.
func chanceCommand(r *rand.Rand) string {
	pack := func() string {
		l := []string{"CL", "COMMON-LISP-USER", "KEYWORD", "A", "A", "B", "B", "C", "C", "D", "D", "E", "NONE"}
		return l[r.Intn(len(l))]
	}
	name := func() string { return []string{"X", "Y", "Z", "'"}[r.Intn(4)] }
	number := func() string { return strconv.Itoa(r.Intn(12) - 1) }
	switch r.Intn(16) {
	case 0:
		nick := []string{"-", "E", "N,M", "X"}[r.Intn(4)]
		return "make " + pack() + " " + nick + " " + pack() + "," + pack()
	case 1:
		return "make " + pack() + " - -"
	case 2:
		if r.Intn(3) > 0 {
			return "use " + pack() + " " + pack()
		}
		return "delete " + pack()
	case 3, 4:
		return "intern " + pack() + " " + name()
	case 5, 6:
		return "export " + pack() + " " + number()
	case 7:
		return "unexport " + pack() + " " + number()
	case 8:
		return "import " + pack() + " " + number()
	case 9:
		return "shadow " + pack() + " " + name()
	case 10:
		return "shadowing " + pack() + " " + number()
	case 11:
		return "unintern " + pack() + " " + number()
	case 12, 13:
		return "use " + pack() + " " + pack()
	case 14:
		return "unuse " + pack() + " " + pack()
	}
	return "fresh " + name()
}

// eachTable calls a test with many tables that commands by chance made, after each command that was possible.
func eachTable(t *testing.T, tables int, test func(r *rand.Rand, s *Table)) {
	t.Helper()
	r := rand.New(rand.NewSource(1))
	for range tables {
		s := table(t, "make A - CL", "make B BN A", "make C - -", "make D - A", "intern A X", "export A 0", "intern C X", "export C 1", "shadow B X", "use B C")
		for range 60 {
			if perform(s, chanceCommand(r)) == api.OK {
				test(r, s)
			}
		}
	}
}

// known returns what is known of a package.
func known(t *testing.T, s *Table, name string) Package {
	t.Helper()
	p, e := s.Package(name)
	if e != api.OK {
		t.Fatalf("Package(%q): %v", name, e)
	}
	return p
}

// meanings returns the symbols that would be accessible under a name: the one that is present, or -1, and the inherited ones, each once.
func meanings(t *testing.T, s *Table, pack, name string) (int, []int) {
	t.Helper()
	named := func(l []int) int {
		for _, n := range l {
			if text, _, _ := s.Symbol(n); text == name {
				return n
			}
		}
		return -1
	}
	p := known(t, s, pack)
	present := max(named(p.Internal), named(p.External))
	var inherited []int
	for _, used := range p.Uses {
		if n := named(known(t, s, used).External); n >= 0 && !slices.Contains(inherited, n) {
			inherited = append(inherited, n)
		}
	}
	return present, inherited
}

// names are the names that tests use.
func someNames() []string { return []string{"X", "Y", "Z", "", "Q"} }

func samePackage(a, b Package) bool {
	return a.Name == b.Name && slices.Equal(a.Nicknames, b.Nicknames) && slices.Equal(a.Uses, b.Uses) && slices.Equal(a.UsedBy, b.UsedBy) && slices.Equal(a.Internal, b.Internal) && slices.Equal(a.External, b.External) && slices.Equal(a.Shadowing, b.Shadowing)
}
