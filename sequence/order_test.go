package sequence

import (
	"math/rand"
	"slices"
	"strings"
	"testing"

	"commonform/api"
)

// P12.1: examples of Sort and Merge.
func TestOrderExamples(t *testing.T) {
	x, e := Sort([]api.Form{list(num(2), char("b")), list(num(1), char("a")), list(num(2), char("a"))}, Numbers, First)
	expectList(t, "Sort", x, e, "(1 a NIL) (2 b NIL) (2 a NIL)")
	x, e = Sort([]api.Form{list(num(2), str("b")), list(num(1), str("ab")), list(num(2), str("a"))}, Strings, Second)
	expectList(t, "Sort by Second", x, e, "(2 a NIL) (1 ab NIL) (2 b NIL)")
	x, e = Sort([]api.Form{str("ccc"), str("b"), str("aa"), str("a")}, Numbers, Length)
	expectList(t, "Sort by Length", x, e, "b a aa ccc")
	x, e = Sort([]api.Form{char("b"), char("B"), char("a")}, Characters, Whole)
	expectList(t, "Sort of characters", x, e, "B a b")
	x, e = Sort(nil, Numbers, First)
	expectList(t, "Sort of nothing", x, e, "")
	x, e = Merge(ints("1 3"), ints("2 3"), Numbers, Whole)
	expectList(t, "Merge", x, e, "1 2 3 3")
	x, e = Merge([]api.Form{node(api.FormSingle, "3f800000")}, ints("1 0"), Numbers, Whole)
	expectList(t, "Merge of equal ones", x, e, "3f800000 1 0")
	x, e = Merge(ints("5 1"), ints("2 9 3"), Numbers, Whole)
	expectList(t, "Merge of sequences that are not sorted", x, e, "2 5 1 9 3")
	x, e = Merge(nil, ints("2 1"), Numbers, Whole)
	expectList(t, "Merge with nothing", x, e, "2 1")
}

// P12.1: errors of Sort and Merge, one behind the other.
func TestOrderErrors(t *testing.T) {
	long, other := many(2001, num(1)), []api.Form{str("a")}
	for _, c := range []struct {
		what       string
		l          []api.Form
		order, key int
		want       api.Errno
	}{
		{"a long sequence", long, 9, 9, api.ErrSize}, {"no order", ints("1"), 3, Whole, api.ErrArg}, {"an order below 0", other, -1, Whole, api.ErrArg}, {"no key", other, Numbers, 4, api.ErrArg}, {"a key below 0", other, Numbers, -1, api.ErrArg},
		{"an element of another kind", other, Numbers, Whole, api.ErrType}, {"a last element of another kind", append(ints("1 2 3"), str("a")), Numbers, Whole, api.ErrType}, {"a complex number", []api.Form{node(api.FormComplex, "", num(1), num(2))}, Numbers, Whole, api.ErrType}, {"an element without a key", ints("1"), Numbers, First, api.ErrType}, {"a key of another kind", other, Strings, Length, api.ErrType}, {"a character", other, Characters, Whole, api.ErrType},
	} {
		x, e := Sort(c.l, c.order, c.key)
		if e != c.want || x != nil {
			t.Errorf("Sort of %s: %v, expected %v", c.what, e, c.want)
		}
		x, e = Merge(c.l, nil, c.order, c.key)
		if e != c.want || x != nil {
			t.Errorf("Merge of %s: %v, expected %v", c.what, e, c.want)
		}
		x, e = Merge(nil, c.l, c.order, c.key)
		if e != c.want || x != nil {
			t.Errorf("Merge with %s: %v, expected %v", c.what, e, c.want)
		}
	}
	x, e := Merge(other, long, 9, 9)
	expectNone(t, "Merge with a long one and a wrong order", x, e, api.ErrSize)
	x, e = Merge(many(1000, num(1)), many(1001, num(1)), Numbers, Whole)
	expectNone(t, "Merge to 2001", x, e, api.ErrSize)
	x, e = Merge(many(1000, num(1)), append(many(1000, num(1)), str("a")), Numbers, Whole)
	expectNone(t, "Merge to 2001, of another kind", x, e, api.ErrType)
	x, e = Merge(many(1000, num(1)), many(1000, num(1)), Numbers, Whole)
	if e != api.OK || len(x) != 2000 {
		t.Errorf("Merge to 2000: %d, %v", len(x), e)
	}
}

// P12.1, P12.5: Sort and Merge by chance: the same elements in order, stable; Merge of sorted ones is Sort of both.
func TestOrderLaws(t *testing.T) {
	r := rand.New(rand.NewSource(3))
	numbers := []api.Form{num(1), num(-5), node(api.FormSingle, "3f800000"), node(api.FormRatio, "1/2"), node(api.FormDouble, "3fe0000000000000"), num(30), num(4), node(api.FormSingle, "80000000"), num(0)}
	for n := range 3000 {
		var l []api.Form
		for range r.Intn(12) {
			l = append(l, list(numbers[r.Intn(len(numbers))], num(len(l))))
		}
		if n == 0 {
			for len(l) < 2000 {
				l = append(l, list(num(r.Intn(50)), num(len(l))))
			}
		}
		sorted, e := Sort(l, Numbers, First)
		want := slices.Clone(l)
		slices.SortStableFunc(want, func(x, y api.Form) int {
			if less, _ := Less(Numbers, x.Kids[0], y.Kids[0]); less {
				return -1
			}
			if less, _ := Less(Numbers, y.Kids[0], x.Kids[0]); less {
				return 1
			}
			return 0
		})
		if e != api.OK || showAll(sorted) != showAll(want) {
			t.Fatalf("Sort(%s) = %s, %v", brief(l), brief(sorted), e)
		}
		if again, _ := Sort(sorted, Numbers, First); showAll(again) != showAll(sorted) {
			t.Fatalf("Sort of Sort is %s", brief(again))
		}
		at := r.Intn(len(l) + 1)
		a, _ := Sort(l[:at], Numbers, First)
		b, _ := Sort(l[at:], Numbers, First)
		if merged, e := Merge(a, b, Numbers, First); e != api.OK || showAll(merged) != showAll(sorted) {
			t.Fatalf("Merge(%s, %s) = %s, %v", brief(a), brief(b), brief(merged), e)
		}
	}
}

// P12.5: Sort of strings is the order of their bytes.
func TestSortStrings(t *testing.T) {
	r := rand.New(rand.NewSource(4))
	for range 500 {
		var l []api.Form
		var texts []string
		for range r.Intn(20) {
			text := strings.Repeat(string(rune('a'+r.Intn(3))), r.Intn(3)) + []string{"", "A", "é", "z", " "}[r.Intn(5)]
			l, texts = append(l, str(text)), append(texts, text)
		}
		slices.Sort(texts)
		sorted, e := Sort(l, Strings, Whole)
		if e != api.OK || brief(sorted) != strings.Join(texts, " ") {
			t.Fatalf("Sort = %q, %v, expected %q", brief(sorted), e, texts)
		}
	}
}

// P12.1: examples of sets.
func TestSetExamples(t *testing.T) {
	for _, c := range []struct{ a, b, union, intersection, difference string }{
		{"1 2", "2 3", "1 2 3", "2", "1"}, {"1 1 2", "2 2 3 3", "1 1 2 3 3", "2", "1 1"}, {"", "1 1", "1 1", "", ""}, {"1 1", "", "1 1", "", "1 1"}, {"1 2 1", "1", "1 2 1", "1 1", "2"}, {"", "", "", "", ""},
	} {
		a, b := ints(c.a), ints(c.b)
		x, e := Union(a, b, Same, Whole)
		expectList(t, "Union", x, e, c.union)
		x, e = Intersection(a, b, Same, Whole)
		expectList(t, "Intersection", x, e, c.intersection)
		x, e = Difference(a, b, Same, Whole)
		expectList(t, "Difference", x, e, c.difference)
		if is, e := Subset(a, b, Same, Whole); e != api.OK || is != (c.difference == "") {
			t.Errorf("Subset(%s, %s) = %v, %v", c.a, c.b, is, e)
		}
	}
	a, b := []api.Form{list(num(1), str("a")), list(num(2), str("b"))}, []api.Form{list(node(api.FormSingle, "40000000"), str("c"))}
	x, e := Union(a, b, Loose, First)
	expectList(t, "Union by a key", x, e, "(1 a NIL) (2 b NIL)")
	x, e = Union(a, b, Same, First)
	expectList(t, "Union by Same", x, e, "(1 a NIL) (2 b NIL) (40000000 c NIL)")
	x, e = Intersection(a, b, Loose, First)
	expectList(t, "Intersection by a key", x, e, "(2 b NIL)")
}

// P12.1: errors of sets, one behind the other.
func TestSetErrors(t *testing.T) {
	long, other := many(2001, num(1)), ints("1")
	for name, call := range map[string]func(a, b []api.Form, test, key int) (api.Errno, bool){
		"Union": func(a, b []api.Form, test, key int) (api.Errno, bool) {
			x, e := Union(a, b, test, key)
			return e, x == nil
		},
		"Intersection": func(a, b []api.Form, test, key int) (api.Errno, bool) {
			x, e := Intersection(a, b, test, key)
			return e, x == nil
		},
		"Difference": func(a, b []api.Form, test, key int) (api.Errno, bool) {
			x, e := Difference(a, b, test, key)
			return e, x == nil
		},
		"Subset": func(a, b []api.Form, test, key int) (api.Errno, bool) {
			is, e := Subset(a, b, test, key)
			return e, !is
		},
	} {
		for _, c := range []struct {
			what      string
			a, b      []api.Form
			test, key int
			want      api.Errno
		}{
			{"a long set", long, nil, 9, 9, api.ErrSize}, {"a long second set", nil, long, 9, 9, api.ErrSize}, {"no test", other, other, 2, First, api.ErrArg}, {"a test below 0", other, other, -1, First, api.ErrArg}, {"no key", other, other, Same, 4, api.ErrArg}, {"a key below 0", nil, nil, Same, -1, api.ErrArg}, {"elements without a key", other, nil, Same, First, api.ErrType}, {"elements without a key in the second set", nil, other, Same, First, api.ErrType},
		} {
			if e, zero := call(c.a, c.b, c.test, c.key); e != c.want || !zero {
				t.Errorf("%s of %s: %v, %v, expected %v", name, c.what, e, zero, c.want)
			}
		}
	}
	x, e := Union(many(1000, num(1)), many(1001, num(2)), Same, Whole)
	expectNone(t, "Union of 2001", x, e, api.ErrSize)
	x, e = Union(many(1000, num(1)), many(1000, num(2)), Same, Whole)
	if e != api.OK || len(x) != 2000 {
		t.Errorf("Union of 2000: %d, %v", len(x), e)
	}
	x, e = Union(many(2000, num(1)), many(2000, num(1)), Same, Whole)
	if e != api.OK || len(x) != 2000 {
		t.Errorf("Union of alike ones: %d, %v", len(x), e)
	}
}

// P12.6: the laws of sets.
func TestSetLaws(t *testing.T) {
	r := rand.New(rand.NewSource(5))
	for range 3000 {
		a, b, test := some(r, pool()), some(r, pool()), r.Intn(2)
		in := func(x api.Form, l []api.Form) bool {
			return slices.ContainsFunc(l, func(y api.Form) bool { return likeness(test)(x, y) })
		}
		both, _ := Intersection(a, b, test, Whole)
		rest, _ := Difference(a, b, test, Whole)
		union, _ := Union(a, b, test, Whole)
		var x, y []api.Form
		z := slices.Clone(a)
		for _, element := range a {
			if in(element, b) {
				x = append(x, element)
			} else {
				y = append(y, element)
			}
		}
		for _, element := range b {
			if !in(element, a) {
				z = append(z, element)
			}
		}
		if showAll(both) != showAll(x) || showAll(rest) != showAll(y) || showAll(union) != showAll(z) {
			t.Fatalf("%s and %s: %s, %s, %s", showAll(a), showAll(b), showAll(both), showAll(rest), showAll(union))
		}
		again, _ := Union(rest, both, test, Whole)
		if len(again) != len(a) {
			t.Fatalf("Union of %s and %s is not %s", showAll(rest), showAll(both), showAll(a))
		}
		if is, e := Subset(a, union, test, Whole); !is || e != api.OK {
			t.Fatalf("%s is not in the Union %s", showAll(a), showAll(union))
		}
	}
}
