package symbols

import (
	"math/rand"
	"slices"
	"testing"

	"commonform/api"
)

// P10.2: what Find returns, by what is known of the packages.
func TestOneMeaning(t *testing.T) {
	shadowed := 0
	eachTable(t, 120, func(r *rand.Rand, s *Table) {
		for _, pack := range s.Packages() {
			p := known(t, s, pack)
			for _, name := range someNames() {
				present, inherited := meanings(t, s, pack, name)
				n, status, e := s.Find(pack, name)
				wanted, state := present, Internal
				switch {
				case present >= 0 && slices.Contains(p.External, present):
					state = External
				case present < 0 && len(inherited) > 0:
					wanted, state = inherited[0], Inherited
				case present < 0:
					state = None
				}
				if n != wanted || status != state || e != api.OK {
					t.Fatalf("Find(%q, %q) = %d, %d, %v; want %d, %d in\n%s", pack, name, n, status, e, wanted, state, s.Text())
				}
				others := slices.DeleteFunc(slices.Clone(inherited), func(n int) bool { return n == present })
				isShadowing := slices.Contains(p.Shadowing, present)
				if !isShadowing && (present >= 0 && len(others) > 0 || len(inherited) > 1) {
					t.Fatalf("%q has several meanings in %q:\n%s", name, pack, s.Text())
				}
				if isShadowing && len(others) > 0 {
					shadowed++
				}
			}
		}
	})
	if shadowed < 50 {
		t.Errorf("only %d names are shadowed", shadowed)
	}
}

// P10.3.
func TestIdentity(t *testing.T) {
	eachTable(t, 60, func(r *rand.Rand, s *Table) {
		pack, name := s.Packages()[r.Intn(len(s.Packages()))], someNames()[r.Intn(5)]
		n, _, e := s.Intern(pack, name)
		m, status, f := s.Intern(pack, name)
		k, found, g := s.Find(pack, name)
		text, _, h := s.Symbol(n)
		if e != api.OK || f != api.OK || g != api.OK || h != api.OK || n != m || n != k || status == None || status != found || text != name {
			t.Fatalf("Intern(%q, %q) = %d, then %d, %d, and Find %d, %d, the name %q", pack, name, n, m, status, k, found, text)
		}
		p := known(t, s, pack)
		for _, n := range slices.Concat(p.Internal, p.External) {
			name, _, _ := s.Symbol(n)
			if m, _, e := s.Find(pack, name); m != n || e != api.OK {
				t.Fatalf("Find(%q, %q) = %d, %v; %d is present", pack, name, m, e, n)
			}
		}
		for _, n := range p.External {
			name, _, _ := s.Symbol(n)
			for _, user := range p.UsedBy {
				if m, status, _ := s.Find(user, name); m != n && !slices.Contains(known(t, s, user).Shadowing, m) {
					t.Fatalf("Find(%q, %q) = %d, %d; want %d of %q", user, name, m, status, n, pack)
				}
			}
		}
	})
	s := New()
	n, _, _ := s.Intern("CL-USER", "X")
	for range 30 {
		perform(s, chanceCommand(rand.New(rand.NewSource(3))))
	}
	if name, _, e := s.Symbol(n); name != "X" || e != api.OK {
		t.Errorf("the name of a symbol became %q, %v", name, e)
	}
}

// P10.4.
func TestThereAndBack(t *testing.T) {
	uses, exports, shadows := 0, 0, 0
	eachTable(t, 100, func(r *rand.Rand, s *Table) {
		l := s.Packages()
		pack, other := l[r.Intn(len(l))], l[r.Intn(len(l))]
		before, p := s.Text(), known(t, s, pack)
		if !slices.Contains(p.Uses, other) && s.Use(pack, other) == api.OK {
			uses++
			if e := s.Unuse(pack, other); e != api.OK || s.Text() != before {
				t.Fatalf("Use and Unuse of %q in %q: %v, %s", other, pack, e, s.Text())
			}
		}
		for _, n := range p.Internal {
			if pack == "KEYWORD" || s.Export(pack, n) != api.OK {
				continue
			}
			exports++
			if e := s.Unexport(pack, n); e != api.OK || s.Text() != before {
				t.Fatalf("Export and Unexport of %d in %q: %v, %s", n, pack, e, s.Text())
			}
		}
		if s.Use(pack, other) != ErrClash {
			return
		}
		for _, name := range someNames() {
			if e := s.Shadow(pack, name); e != api.OK {
				t.Fatalf("Shadow(%q, %q): %v", pack, name, e)
			}
		}
		if e := s.Use(pack, other); e != api.OK {
			t.Fatalf("Use of %q in %q behind Shadow: %v", other, pack, e)
		}
		shadows++
	})
	if uses < 100 || exports < 100 || shadows < 20 {
		t.Errorf("only %d uses, %d exports, %d shadows", uses, exports, shadows)
	}
}

// P10.5.
func TestRefused(t *testing.T) {
	refused := map[api.Errno]int{}
	eachTable(t, 150, func(r *rand.Rand, s *Table) {
		before, command := s.Text(), chanceCommand(r)
		if e := perform(s, command); e != api.OK {
			refused[e]++
			if s.Text() != before {
				t.Fatalf("%s: %v changed\n%s to\n%s", command, e, before, s.Text())
			}
		}
	})
	for _, e := range []api.Errno{api.ErrArg, api.ErrNone, api.ErrTwice, ErrClash, ErrUsed, ErrAccess} {
		if refused[e] < 5 {
			t.Errorf("only %d commands had the error %v", refused[e], e)
		}
	}
}

// P10.6: a table of a text does what the table does.
func TestParseLaw(t *testing.T) {
	eachTable(t, 100, func(r *rand.Rand, s *Table) {
		text := s.Text()
		u, e := Parse(text)
		if e != api.OK || u.Text() != text || !slices.Equal(u.Packages(), s.Packages()) {
			t.Fatalf("Parse: %v, of\n%s", e, text)
		}
		for _, pack := range s.Packages() {
			if !samePackage(known(t, s, pack), known(t, u, pack)) {
				t.Fatalf("%q is another package in the table of\n%s", pack, text)
			}
		}
		command := chanceCommand(r)
		if e, f := perform(s, command), perform(u, command); e != f || s.Text() != u.Text() {
			t.Fatalf("%s: %v and %v, of\n%s", command, e, f, text)
		}
	})
}
