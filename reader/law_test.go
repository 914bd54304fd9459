package reader

import (
	"math/rand"
	"slices"
	"strings"
	"testing"

	"commonform/api"
	"commonform/forms"
	"commonform/notation"
	"commonform/token"
)

// P7.2.
func TestBlanks(t *testing.T) {
	eachText(t, func(r *rand.Rand, parts []string) {
		s := strings.Join(parts, " ")
		want, at, e := One(usual(), s)
		if e != api.OK {
			t.Fatalf("One(%q) = %d, %v", s, at, e)
		}
		spaced := spread(r, parts)
		if len(spaced) > api.MaxSource {
			return
		}
		got, at, e := One(usual(), spaced)
		if e != api.OK || show(got.Form) != show(want.Form) || !slices.Equal(names(got.References), names(want.References)) {
			t.Fatalf("One(%q) = %s, %d, %v; want %s", spaced, show(got.Form), at, e, show(want.Form))
		}
		for _, behind := range []string{")", " #<", "(", "\"", ";", "\n\x01", "'"} {
			again, _, e := Read(usual(), "é) #|"+s+behind, len("é) #|"))
			if e != api.OK || show(again.Form) != show(want.Form) || again.To != want.To+6 || again.From != want.From+6 || !slices.Equal(names(again.References), names(want.References)) {
				t.Fatalf("Read(%q) = %s, %v; want %s", s+behind, show(again.Form), e, show(want.Form))
			}
		}
	})
}

// moved returns results as they are in a text with so many bytes in front.
func moved(l []Result, by int) []Result {
	var all []Result
	for _, x := range l {
		x.From, x.To = x.From+by, x.To+by
		x.References = slices.Clone(x.References)
		for i := range x.References {
			x.References[i].At += by
		}
		all = append(all, x)
	}
	return all
}

func sameResults(a, b []Result) bool {
	return slices.EqualFunc(a, b, func(x, y Result) bool {
		return show(x.Form) == show(y.Form) && slices.Equal(x.References, y.References) && x.From == y.From && x.To == y.To
	})
}

// chanceText makes a text of pieces that need not fit together.
func chanceText(r *rand.Rand) string {
	l := []string{"(", ")", "a", " ", ".", "'", "`", ",", "@", "#", "1", "\"", "\\", "|", ";", "\n", ":", "#|", "|#", "#(", "#+", "small", "#1=", "#1#", "#\\", "x", "+", "é", "\x01", " . ", "#2a", "q:r", "#*", "#c", ")", " ", "b"}
	var b strings.Builder
	for range r.Intn(12) {
		b.WriteString(l[r.Intn(len(l))])
	}
	return b.String()
}

// P7.3.
func TestSequences(t *testing.T) {
	r := rand.New(rand.NewSource(2))
	fine := 0
	for range 20000 {
		a, b := chanceText(r), chanceText(r)
		first, _, e := All(usual(), a)
		if e != api.OK {
			continue
		}
		second, at, e := All(usual(), b)
		both, place, f := All(usual(), a+"\n"+b)
		if e != f || e != api.OK && place != at+len(a)+1 || e == api.OK && !sameResults(both, append(first, moved(second, len(a)+1)...)) {
			t.Fatalf("All of %q and %q: %v, %d, %v", a, b, both, place, f)
		}
		if e == api.OK && len(both) > 1 {
			fine++
		}
		for _, x := range both {
			again, _, e := Read(usual(), a+"\n"+b, x.From)
			if e != api.OK || !sameResults([]Result{again}, []Result{x}) {
				t.Fatalf("Read of %q from %d = %v, %v; want %v", a+"\n"+b, x.From, again, e, x)
			}
		}
	}
	if fine < 200 {
		t.Errorf("only %d texts have several forms", fine)
	}
}

// P7.4.
func TestCuts(t *testing.T) {
	eachText(t, func(r *rand.Rand, parts []string) {
		for i := range parts {
			s := strings.Join(parts[:i], " ")
			if _, at, e := All(usual(), s); e != api.OK && (e != api.ErrEnd || at != len(s)) {
				t.Fatalf("All(%q) = %d, %v", s, at, e)
			}
		}
		// a cut of a string, a list or a comment leaves no other error
		s := `("a \" b" #|c|# ;d` + "\n" + ` (e `
		for i := range s {
			if _, at, e := All(usual(), s[:i]); e != api.OK && e != api.ErrEnd || e == api.ErrEnd && at != i {
				t.Fatalf("All(%q) = %d, %v", s[:i], at, e)
			}
		}
	})
	r := rand.New(rand.NewSource(3))
	for range 20000 {
		s := chanceText(r)
		at := r.Intn(len(s) + 1)
		_, place, e := Read(usual(), s, at)
		if e != api.OK && e != api.ErrArg && (place < at || place > len(s)) {
			t.Fatalf("Read(%q, %d) has an error at %d: %v", s, at, place, e)
		}
		if _, place, e := All(usual(), s); e != api.OK && (place < 0 || place > len(s)) {
			t.Fatalf("All(%q) has an error at %d: %v", s, place, e)
		}
	}
}

// written counts the symbols with a home in a form, but for those that the reader makes.
func written(f api.Form, count map[[2]string]int) {
	made := f.Home == "COMMON-LISP" || f.Home == notation.Home
	if f.Kind == api.FormSymbol && f.Home != "" && !made {
		count[[2]string{f.Home, f.Text}]++
	}
	for _, kid := range f.Kids {
		written(kid, count)
	}
}

// P7.5.
func TestRight(t *testing.T) {
	check := func(s string, x Result) {
		if e := forms.Check(x.Form); e != api.OK {
			t.Fatalf("what is read of %q, %s, has the error %v", s, show(x.Form), e)
		}
		count := map[[2]string]int{}
		written(x.Form, count)
		last := -1
		for _, symbol := range x.References {
			count[[2]string{symbol.Home, symbol.Name}]--
			k, _, e := token.Next(token.Table{}, s, symbol.At)
			n, f := token.Split(k)
			if e != api.OK || f != api.OK || n.Name != symbol.Name || symbol.External != (n.Kind == token.External) || symbol.At <= last || symbol.At < x.From || symbol.At >= x.To {
				t.Fatalf("the symbol %v of %q", symbol, s)
			}
			last = symbol.At
		}
		for name, n := range count {
			if n < 0 || n > 0 && !strings.Contains(s, "#3") {
				t.Fatalf("the symbol %v of %q has %d references too few", name, s, n)
			}
		}
	}
	eachText(t, func(r *rand.Rand, parts []string) {
		s := strings.Join(parts, " ")
		x, _, _ := One(usual(), s)
		check(s, x)
	})
	r := rand.New(rand.NewSource(4))
	for range 20000 {
		s := chanceText(r)
		l, _, _ := All(usual(), s)
		for _, x := range l {
			check(s, x)
		}
	}
}
