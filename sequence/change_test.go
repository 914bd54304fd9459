package sequence

import (
	"math/rand"
	"slices"
	"testing"

	"commonform/api"
)

// P12.1: examples of changes.
func TestChangeExamples(t *testing.T) {
	l := ints("1 2 1 3 1")
	for _, c := range []struct {
		o                  Options
		remove, substitute string
	}{
		{all(), "2 3", "9 2 9 3 9"}, {with(func(o *Options) { o.Count = 1 }), "2 1 3 1", "9 2 1 3 1"}, {with(func(o *Options) { o.Count, o.FromEnd = 1, true }), "1 2 1 3", "1 2 1 3 9"}, {with(func(o *Options) { o.Count, o.FromEnd = 2, true }), "1 2 3", "1 2 9 3 9"},
		{with(func(o *Options) { o.Count = 0 }), "1 2 1 3 1", "1 2 1 3 1"}, {with(func(o *Options) { o.Count = 9 }), "2 3", "9 2 9 3 9"}, {with(func(o *Options) { o.Not = true }), "1 1 1", "1 9 1 9 1"}, {with(func(o *Options) { o.Start = 1 }), "1 2 3", "1 2 9 3 9"}, {with(func(o *Options) { o.End = 2 }), "2 1 3 1", "9 2 1 3 1"}, {with(func(o *Options) { o.Start, o.End, o.Not, o.Count = 1, 4, true, 1 }), "1 1 3 1", "1 9 1 3 1"},
	} {
		x, e := Remove(num(1), l, c.o)
		expectList(t, "Remove", x, e, c.remove)
		x, e = Substitute(num(9), num(1), l, c.o)
		expectList(t, "Substitute", x, e, c.substitute)
	}
	for _, c := range []struct {
		l    string
		o    Options
		want string
	}{
		{"1 2 1 3", all(), "2 1 3"}, {"1 2 1 3", with(func(o *Options) { o.FromEnd = true }), "1 2 3"}, {"1 2 1 3 1", with(func(o *Options) { o.Start, o.End = 1, 4 }), "1 2 1 3 1"}, {"1 1 1 1", with(func(o *Options) { o.Start, o.End = 1, 3 }), "1 1 1"}, {"1 1 1", with(func(o *Options) { o.Count = 0 }), "1"},
		{"1 2 1 1", with(func(o *Options) { o.Not = true }), "1 1"}, {"1 2 1 1", with(func(o *Options) { o.Not, o.FromEnd = true, true }), "1"}, {"1 1 2", with(func(o *Options) { o.Not = true }), "2"}, {"", all(), ""},
	} {
		x, e := Distinct(ints(c.l), c.o)
		expectList(t, "Distinct of "+c.l, x, e, c.want)
	}
	x, e := Distinct([]api.Form{list(num(1), str("a")), list(num(1), str("b")), list(num(2), str("a"))}, with(func(o *Options) { o.Key = First }))
	expectList(t, "Distinct by a key", x, e, "(1 b NIL) (2 a NIL)")
	x, e = Distinct([]api.Form{str("a"), str("A")}, with(func(o *Options) { o.Test, o.FromEnd = Loose, true }))
	expectList(t, "Distinct by Loose", x, e, "a")
}

// P12.1: parts of sequences, and their errors.
func TestParts(t *testing.T) {
	l, long := ints("1 2 3 4"), many(2001, num(1))
	for _, c := range []struct {
		start, end int
		want       string
		e          api.Errno
	}{
		{1, -1, "2 3 4", api.OK}, {0, 4, "1 2 3 4", api.OK}, {1, 3, "2 3", api.OK}, {4, -1, "", api.OK}, {4, 4, "", api.OK}, {2, 2, "", api.OK}, {-1, 2, "", api.ErrOrder}, {0, -2, "", api.ErrOrder}, {3, 2, "", api.ErrOrder}, {0, 5, "", api.ErrOrder}, {5, -1, "", api.ErrOrder}, {5, 5, "", api.ErrOrder},
	} {
		x, e := Subsequence(l, c.start, c.end)
		if e != c.e || brief(x) != c.want || e != api.OK && x != nil {
			t.Errorf("Subsequence(%d, %d) = %s, %v", c.start, c.end, brief(x), e)
		}
		filled, e := Fill(l, num(9), c.start, c.end)
		want := ints("1 2 3 4")
		for i := range x {
			want[c.start+i] = num(9)
		}
		if e != c.e || e == api.OK && brief(filled) != brief(want) || e != api.OK && filled != nil {
			t.Errorf("Fill(%d, %d) = %s, %v", c.start, c.end, brief(filled), e)
		}
	}
	x, e := Reverse(l)
	expectList(t, "Reverse", x, e, "4 3 2 1")
	x, e = Reverse(nil)
	expectList(t, "Reverse of nothing", x, e, "")
	x, e = Reverse(long)
	expectNone(t, "Reverse of a long one", x, e, api.ErrSize)
	x, e = Subsequence(long, -9, 0)
	expectNone(t, "Subsequence of a long one", x, e, api.ErrSize)
	x, e = Fill(long, num(1), -9, 0)
	expectNone(t, "Fill of a long one", x, e, api.ErrSize)
}

// P12.1: Replace, and its errors.
func TestReplace(t *testing.T) {
	l, m, long := ints("1 2 3 4"), ints("7 8 9"), many(2001, num(1))
	for _, c := range []struct {
		start, end, from, to int
		want                 string
		e                    api.Errno
	}{
		{0, -1, 0, -1, "7 8 9 4", api.OK}, {1, -1, 1, -1, "1 8 9 4", api.OK}, {1, 2, 0, -1, "1 7 3 4", api.OK}, {2, -1, 0, -1, "1 2 7 8", api.OK}, {0, -1, 1, 2, "8 2 3 4", api.OK}, {4, 4, 0, -1, "1 2 3 4", api.OK}, {0, -1, 3, -1, "1 2 3 4", api.OK},
		{-1, -1, 9, 9, "", api.ErrOrder}, {0, 5, 0, -1, "", api.ErrOrder}, {0, -1, 0, 4, "", api.ErrOrder}, {0, -1, 2, 1, "", api.ErrOrder}, {0, -1, 4, -1, "", api.ErrOrder}, {0, -1, -1, -1, "", api.ErrOrder}, {0, -1, 0, -2, "", api.ErrOrder},
	} {
		x, e := Replace(l, m, c.start, c.end, c.from, c.to)
		if e != c.e || brief(x) != c.want || e != api.OK && x != nil {
			t.Errorf("Replace(%d, %d, %d, %d) = %s, %v, expected %s, %v", c.start, c.end, c.from, c.to, brief(x), e, c.want, c.e)
		}
	}
	x, e := Replace(long, m, -1, -1, 0, 0)
	expectNone(t, "Replace in a long one", x, e, api.ErrSize)
	x, e = Replace(l, long, -1, -1, 0, 0)
	expectNone(t, "Replace by a long one", x, e, api.ErrSize)
}

// P12.1: results share nothing with arguments, nor their elements with one another.
func TestResultsAreNew(t *testing.T) {
	x := vec(num(1))
	l := []api.Form{x, list(num(2)), x}
	results := map[string]func() ([]api.Form, api.Errno){
		"Remove":       func() ([]api.Form, api.Errno) { return Remove(num(9), l, all()) },
		"Substitute":   func() ([]api.Form, api.Errno) { return Substitute(x, list(num(2)), l, all()) },
		"Distinct":     func() ([]api.Form, api.Errno) { return Distinct(l, Options{}) },
		"Subsequence":  func() ([]api.Form, api.Errno) { return Subsequence(l, 0, -1) },
		"Replace":      func() ([]api.Form, api.Errno) { return Replace(l, l, 0, -1, 0, -1) },
		"Fill":         func() ([]api.Form, api.Errno) { return Fill(l, x, 0, -1) },
		"Reverse":      func() ([]api.Form, api.Errno) { return Reverse(l) },
		"Sort":         func() ([]api.Form, api.Errno) { return Sort(l, Numbers, Length) },
		"Merge":        func() ([]api.Form, api.Errno) { return Merge(l, l, Numbers, Length) },
		"Union":        func() ([]api.Form, api.Errno) { return Union(l, ints("1"), Same, Whole) },
		"Intersection": func() ([]api.Form, api.Errno) { return Intersection(l, l, Same, Whole) },
		"Difference":   func() ([]api.Form, api.Errno) { return Difference(l, nil, Same, Whole) },
	}
	for name, result := range results {
		made, e := result()
		if e != api.OK || len(made) < 2 {
			t.Fatalf("%s: %v, %v", name, brief(made), e)
		}
		for i := range made {
			others := brief(slices.Delete(slices.Clone(made), i, i+1))
			for k := range made[i].Kids {
				made[i].Kids[k] = str("changed")
			}
			if brief(slices.Delete(slices.Clone(made), i, i+1)) != others || brief(l) != "(1) (2 NIL) (1)" {
				t.Errorf("%s shares memory", name)
			}
		}
	}
}

// changing returns the elements that Remove and Substitute change, by the words of the document.
func changing(x api.Form, l []api.Form, o Options) []int {
	taken := taking(x, l, o)
	if o.Count < 0 || o.Count >= len(taken) {
		return taken
	}
	if o.FromEnd {
		return taken[len(taken)-o.Count:]
	}
	return taken[:o.Count]
}

// P12.1, P12.3, P12.4: changes by chance, against the words of the document, and their laws.
func TestChangeLaws(t *testing.T) {
	r := rand.New(rand.NewSource(2))
	for range 6000 {
		l := some(r, pool())
		x, o := pool()[r.Intn(5)], options(r, len(l))
		changed := changing(x, l, o)
		removed, e := Remove(x, l, o)
		var left []api.Form
		other := slices.Clone(l)
		for i, element := range l {
			if slices.Contains(changed, i) {
				other[i] = str("new")
			} else {
				left = append(left, element)
			}
		}
		if e != api.OK || showAll(removed) != showAll(left) {
			t.Fatalf("Remove(%s, %s, %v) = %s, %v", show(x), showAll(l), o, showAll(removed), e)
		}
		if o.Count >= 0 && len(l)-len(removed) > o.Count {
			t.Fatalf("Remove takes more than %d", o.Count)
		}
		if n, _ := Count(x, l, o); o.Count == -1 && n != len(l)-len(removed) {
			t.Fatalf("Remove leaves out %d, and Count is %d", len(l)-len(removed), n)
		}
		substituted, e := Substitute(str("new"), x, l, o)
		if e != api.OK || showAll(substituted) != showAll(other) {
			t.Fatalf("Substitute(%s, %s, %v) = %s, %v", show(x), showAll(l), o, showAll(substituted), e)
		}
		once, _ := Reverse(l)
		if twice, _ := Reverse(once); showAll(twice) != showAll(l) {
			t.Fatalf("Reverse of Reverse of %s is %s", showAll(l), showAll(twice))
		}
		checkDistinct(t, l, o)
	}
}

func checkDistinct(t *testing.T, l []api.Form, o Options) {
	t.Helper()
	end := o.End
	if end < 0 {
		end = len(l)
	}
	var want []api.Form
	for i, x := range l {
		left := true
		for k := o.Start; k < end; k++ {
			if i >= o.Start && i < end && (k > i && !o.FromEnd || k < i && o.FromEnd) && likeness(o.Test)(x, l[k]) != o.Not {
				left = false
			}
		}
		if left {
			want = append(want, x)
		}
	}
	made, e := Distinct(l, o)
	if e != api.OK || showAll(made) != showAll(want) {
		t.Fatalf("Distinct(%s, %v) = %s, %v, expected %s", showAll(l), o, showAll(made), e, showAll(want))
	}
	if o.Not || o.Start > 0 || end < len(l) {
		return
	}
	for i, x := range made {
		if slices.ContainsFunc(made[i+1:], func(y api.Form) bool { return likeness(o.Test)(x, y) }) {
			t.Fatalf("Distinct(%s) has elements that are alike: %s", showAll(l), showAll(made))
		}
	}
	for _, x := range l {
		if !slices.ContainsFunc(made, func(y api.Form) bool { return likeness(o.Test)(x, y) }) {
			t.Fatalf("Distinct(%s) has lost %s", showAll(l), show(x))
		}
	}
}
