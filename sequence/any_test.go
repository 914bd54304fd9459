package sequence

import (
	"math/rand"
	"testing"

	"commonform/api"
)

// P1: no function panics, and with an error every other result is its zero value.
func TestAnyArguments(t *testing.T) {
	r := rand.New(rand.NewSource(6))
	n := func() int { return []int{-1 << 63, -2, -1, 0, 1, 2, 3, 4, 1<<63 - 1}[r.Intn(9)] }
	elements := elementsOf()
	x := func() api.Form { return elements[r.Intn(len(elements))] }
	check := func(what string, l []api.Form, e api.Errno) {
		t.Helper()
		if e != api.OK && l != nil {
			t.Fatalf("%s: %s, %v", what, showAll(l), e)
		}
	}
	for range 20000 {
		a, b := some(r, elements), some(r, elements)
		o := Options{Start: n(), End: n(), Count: n(), FromEnd: r.Intn(2) == 0, Not: r.Intn(2) == 0, Test: n(), Key: n()}
		if f, e := Find(x(), a, o); e != api.OK && f.Kind != 0 {
			t.Fatalf("Find: %v, %v", f, e)
		}
		if i, e := Search(a, b, o); e != api.OK && i != 0 {
			t.Fatalf("Search: %v, %v", i, e)
		}
		if i, e := Mismatch(a, b, o); e != api.OK && i != 0 {
			t.Fatalf("Mismatch: %v, %v", i, e)
		}
		l, e := Remove(x(), a, o)
		check("Remove", l, e)
		l, e = Substitute(x(), x(), a, o)
		check("Substitute", l, e)
		l, e = Distinct(a, o)
		check("Distinct", l, e)
		l, e = Subsequence(a, n(), n())
		check("Subsequence", l, e)
		l, e = Replace(a, b, n(), n(), n(), n())
		check("Replace", l, e)
		l, e = Fill(a, x(), n(), n())
		check("Fill", l, e)
		l, e = Sort(a, n(), n())
		check("Sort", l, e)
		l, e = Merge(a, b, n(), n())
		check("Merge", l, e)
		l, e = Union(a, b, n(), n())
		check("Union", l, e)
		if is, e := Subset(a, b, n(), n()); e != api.OK && is {
			t.Fatalf("Subset: %v", e)
		}
		if f, e := Taken(n(), x()); e != api.OK && f.Kind != 0 {
			t.Fatalf("Taken: %v, %v", f, e)
		}
		Alike(n(), x(), x())
		Less(n(), x(), x())
	}
}
