package sequence

import (
	"math/rand"
	"testing"

	"commonform/api"
)

// P12.1: examples of searching.
func TestSearchExamples(t *testing.T) {
	l := ints("1 2 1 3")
	back := with(func(o *Options) { o.FromEnd = true })
	not := with(func(o *Options) { o.Not = true })
	part := with(func(o *Options) { o.Start, o.End = 1, 3 })
	for _, c := range []struct {
		x               int
		o               Options
		position, count int
	}{
		{1, all(), 0, 2}, {1, back, 2, 2}, {1, not, 1, 2}, {1, part, 2, 1}, {3, part, -1, 0}, {9, all(), -1, 0}, {9, back, -1, 0},
		{1, with(func(o *Options) { o.Not, o.FromEnd = true, true }), 3, 2}, {1, with(func(o *Options) { o.Start = 4 }), -1, 0}, {1, with(func(o *Options) { o.Count = 0 }), 0, 2}, {1, Options{}, -1, 0},
	} {
		if i, e := Position(num(c.x), l, c.o); i != c.position || e != api.OK {
			t.Errorf("Position(%d, %v) = %d, %v, expected %d", c.x, c.o, i, e, c.position)
		}
		if n, e := Count(num(c.x), l, c.o); n != c.count || e != api.OK {
			t.Errorf("Count(%d, %v) = %d, %v, expected %d", c.x, c.o, n, e, c.count)
		}
		f, e := Find(num(c.x), l, c.o)
		if c.position < 0 && (e != api.ErrNone || f.Kind != 0) || c.position >= 0 && (e != api.OK || !equal(f, l[c.position])) {
			t.Errorf("Find(%d, %v) = %s, %v", c.x, c.o, show(f), e)
		}
	}
	for _, c := range []struct {
		part string
		o    Options
		want int
	}{
		{"1 3", all(), 2}, {"1", all(), 0}, {"1", back, 2}, {"", all(), 0}, {"", back, 4}, {"", part, 1}, {"", with(func(o *Options) { o.Start, o.End, o.FromEnd = 1, 3, true }), 3}, {"2 1", part, 1}, {"1 2", part, -1}, {"1 3", part, -1},
		{"1 2 1 3", back, 0}, {"1 2 1 3 1", all(), -1}, {"3 1", all(), -1}, {"1", not, 0}, {"1", with(func(o *Options) { o.Count = 0 }), 0},
	} {
		if i, e := Search(ints(c.part), l, c.o); i != c.want || e != api.OK {
			t.Errorf("Search(%s, %v) = %d, %v, expected %d", c.part, c.o, i, e, c.want)
		}
	}
	for _, c := range []struct {
		a, b string
		want int
	}{{"1 2", "1 2 1", 2}, {"1 2 1", "1 2", 2}, {"1 2", "1 2", -1}, {"", "", -1}, {"", "1", 0}, {"1 3", "1 2", 1}, {"2 1", "3 1", 0}} {
		if i, e := Mismatch(ints(c.a), ints(c.b), all()); i != c.want || e != api.OK {
			t.Errorf("Mismatch(%s, %s) = %d, %v, expected %d", c.a, c.b, i, e, c.want)
		}
	}
	if i, e := Mismatch(ints("1 2"), ints("1 3"), Options{Start: -9, End: 99, FromEnd: true, Not: true}); i != 1 || e != api.OK {
		t.Errorf("Mismatch with a start and an end = %d, %v", i, e)
	}
}

// P12.1: tests and keys in searching; x itself has no key.
func TestSearchKeys(t *testing.T) {
	l := []api.Form{list(num(1), str("a")), list(num(2), str("A")), list(node(api.FormSingle, "3f800000"), str("b"))}
	for _, c := range []struct {
		x         api.Form
		test, key int
		want      int
	}{
		{num(1), Same, First, 1}, {num(1), Loose, First, 2}, {str("A"), Same, Second, 1}, {str("a"), Loose, Second, 2}, {num(2), Same, Length, 3}, {node(api.FormSingle, "40000000"), Loose, Length, 3}, {node(api.FormSingle, "40000000"), Same, Length, 0}, {num(1), Loose, Whole, 0}, {list(num(1), str("B")), Loose, Whole, 1},
	} {
		o := with(func(o *Options) { o.Test, o.Key = c.test, c.key })
		if n, e := Count(c.x, l, o); n != c.want || e != api.OK {
			t.Errorf("Count(%s) with test %d and key %d = %d, %v, expected %d", show(c.x), c.test, c.key, n, e, c.want)
		}
	}
	o := with(func(o *Options) { o.Test, o.Key = Loose, First })
	if i, e := Search([]api.Form{list(num(2)), list(num(1))}, l, o); i != 1 || e != api.OK {
		t.Errorf("Search = %d, %v", i, e)
	}
	if i, e := Mismatch(l, []api.Form{list(num(1)), list(num(2)), list(num(1)), list(num(5))}, o); i != 3 || e != api.OK {
		t.Errorf("Mismatch = %d, %v", i, e)
	}
	f, _ := Find(num(1), l, o)
	f.Kids[0] = num(9)
	if brief(l[0].Kids[:1]) != "1" {
		t.Errorf("Find shares memory with its argument")
	}
}

// withOptions are all functions with options, and how many sequences they have.
func withOptions() map[string]func(l []api.Form, o Options) (api.Errno, bool) {
	return map[string]func(l []api.Form, o Options) (api.Errno, bool){
		"Find":     func(l []api.Form, o Options) (api.Errno, bool) { f, e := Find(num(1), l, o); return e, f.Kind == 0 },
		"Position": func(l []api.Form, o Options) (api.Errno, bool) { n, e := Position(num(1), l, o); return e, n == 0 },
		"Count":    func(l []api.Form, o Options) (api.Errno, bool) { n, e := Count(num(1), l, o); return e, n == 0 },
		"Search":   func(l []api.Form, o Options) (api.Errno, bool) { n, e := Search(nil, l, o); return e, n == 0 },
		"Remove":   func(l []api.Form, o Options) (api.Errno, bool) { x, e := Remove(num(1), l, o); return e, x == nil },
		"Substitute": func(l []api.Form, o Options) (api.Errno, bool) {
			x, e := Substitute(num(2), num(1), l, o)
			return e, x == nil
		},
		"Distinct": func(l []api.Form, o Options) (api.Errno, bool) { x, e := Distinct(l, o); return e, x == nil },
	}
}

// P12.1: errors of sequences, options and keys, one behind the other.
func TestOptionErrors(t *testing.T) {
	long, ok := many(2001, num(1)), ints("1 2 3 4")
	for name, call := range withOptions() {
		for _, c := range []struct {
			what string
			l    []api.Form
			o    Options
			want api.Errno
		}{
			{"a long sequence and no test", long, Options{Test: 2}, api.ErrSize}, {"a long sequence", long, all(), api.ErrSize},
			{"no test, and no start", ok, Options{Test: 2, Start: -1}, api.ErrArg}, {"a test below 0", ok, Options{Test: -1}, api.ErrArg}, {"no key", ok, Options{Key: 4, Start: 9}, api.ErrArg}, {"a key below 0", ok, Options{Key: -1}, api.ErrArg}, {"a count below -1", ok, Options{Count: -2, End: 9}, api.ErrArg},
			{"a start below 0", ok, Options{Start: -1, End: -1}, api.ErrOrder}, {"an end below -1", ok, Options{End: -2}, api.ErrOrder}, {"an end ahead of the start", ok, Options{Start: 3, End: 2}, api.ErrOrder}, {"an end behind the last one", ok, Options{End: 5}, api.ErrOrder}, {"a start behind the last one", ok, Options{Start: 5, End: -1}, api.ErrOrder}, {"both behind it", ok, Options{Start: 5, End: 5}, api.ErrOrder},
			{"a wrong key and a wrong start", ok, Options{Start: 5, End: -1, Key: First}, api.ErrOrder},
			{"elements without the key", ok, with(func(o *Options) { o.Key = First }), api.ErrType}, {"one without the key", []api.Form{list(num(1)), num(1)}, with(func(o *Options) { o.Key = First }), api.ErrType},
		} {
			if e, zero := call(c.l, c.o); e != c.want || !zero {
				t.Errorf("%s of %s: %v, %v, expected %v", name, c.what, e, zero, c.want)
			}
		}
		if e, _ := call([]api.Form{num(1), list(num(1)), num(1)}, Options{Start: 1, End: 2, Key: First}); e != api.OK {
			t.Errorf("%s of elements without the key that are not looked at: %v", name, e)
		}
		if e, _ := call(many(2000, num(1)), all()); e != api.OK {
			t.Errorf("%s of 2000 elements: %v", name, e)
		}
		for _, o := range []Options{{Start: 4, End: -1}, {Start: 4, End: 4}, {Start: 0, End: 0}} {
			if e, _ := call(ok, o); e != api.OK && e != api.ErrNone {
				t.Errorf("%s with %v: %v", name, o, e)
			}
		}
	}
}

// P12.1: errors of Search and Mismatch, which have two sequences.
func TestTwoSequenceErrors(t *testing.T) {
	long, bad := many(2001, num(1)), with(func(o *Options) { o.Key = First })
	for _, c := range []struct {
		a, b             []api.Form
		o                Options
		search, mismatch api.Errno
	}{
		{long, nil, Options{Test: 9}, api.ErrSize, api.ErrSize}, {nil, long, Options{Test: 9}, api.ErrSize, api.ErrSize}, {nil, nil, Options{Test: 9, Start: 9}, api.ErrArg, api.ErrArg}, {nil, nil, Options{Key: 9}, api.ErrArg, api.ErrArg}, {nil, nil, Options{Count: -2}, api.ErrArg, api.ErrArg},
		{ints("1"), ints("1"), Options{Start: 2, End: -1}, api.ErrOrder, api.OK}, {ints("1"), nil, bad, api.ErrType, api.ErrType}, {nil, ints("1"), bad, api.ErrType, api.ErrType}, {nil, ints("1"), Options{Key: First}, api.OK, api.ErrType}, {ints("1 1 1"), ints("1"), bad, api.ErrType, api.ErrType},
	} {
		if n, e := Search(c.a, c.b, c.o); e != c.search || e != api.OK && n != 0 {
			t.Errorf("Search(%d, %d, %v) = %d, %v, expected %v", len(c.a), len(c.b), c.o, n, e, c.search)
		}
		if n, e := Mismatch(c.a, c.b, c.o); e != c.mismatch || e != api.OK && n != 0 {
			t.Errorf("Mismatch(%d, %d, %v) = %d, %v, expected %v", len(c.a), len(c.b), c.o, n, e, c.mismatch)
		}
	}
}

// options makes right options by chance.
func options(r *rand.Rand, n int) Options {
	o := Options{Start: r.Intn(n + 1), End: -1, Count: r.Intn(4) - 1, FromEnd: r.Intn(2) == 0, Not: r.Intn(3) == 0, Test: r.Intn(2)}
	if r.Intn(2) == 0 {
		o.End = o.Start + r.Intn(n-o.Start+1)
	}
	return o
}

// pool are elements of which many are alike by Loose.
func pool() []api.Form {
	return []api.Form{num(1), node(api.FormSingle, "3f800000"), num(2), str("a"), str("A")}
}

// taking returns which elements are taken, by the words of the document.
func taking(x api.Form, l []api.Form, o Options) []int {
	end := o.End
	if end < 0 {
		end = len(l)
	}
	var taken []int
	for i := o.Start; i < end; i++ {
		if likeness(o.Test)(l[i], x) != o.Not {
			taken = append(taken, i)
		}
	}
	return taken
}

// P12.1, P12.3: searching by chance, against the words of the document, and its laws.
func TestSearchLaws(t *testing.T) {
	r := rand.New(rand.NewSource(1))
	for range 6000 {
		l, part := some(r, pool()), some(r, pool())
		x, o := pool()[r.Intn(5)], options(r, len(l))
		taken := taking(x, l, o)
		i, e := Position(x, l, o)
		want := -1
		if len(taken) > 0 {
			want = taken[0]
			if o.FromEnd {
				want = taken[len(taken)-1]
			}
		}
		if i != want || e != api.OK {
			t.Fatalf("Position(%s, %s, %v) = %d, %v, expected %d", show(x), showAll(l), o, i, e, want)
		}
		if f, e := Find(x, l, o); i >= 0 && (e != api.OK || !equal(f, l[i])) || i < 0 && e != api.ErrNone {
			t.Fatalf("Find is %s, %v, and Position %d", show(f), e, i)
		}
		if n, e := Count(x, l, o); n != len(taken) || e != api.OK {
			t.Fatalf("Count(%s, %s, %v) = %d, %v", show(x), showAll(l), o, n, e)
		}
		front, back := o, o
		front.FromEnd, back.FromEnd = false, true
		first, _ := Position(x, l, front)
		if last, _ := Position(x, l, back); last < first {
			t.Fatalf("Position from the end %d is less than %d", last, first)
		}
		checkSearch(t, part[:r.Intn(len(part)+1)], l, o)
	}
}

func checkSearch(t *testing.T, part, l []api.Form, o Options) {
	t.Helper()
	end, want := o.End, -1
	if end < 0 {
		end = len(l)
	}
	for i := o.Start; i+len(part) <= end; i++ {
		fits := true
		for k, x := range part {
			fits = fits && likeness(o.Test)(x, l[i+k])
		}
		if fits && (want < 0 || o.FromEnd) {
			want = i
		}
	}
	if i, e := Search(part, l, o); i != want || e != api.OK {
		t.Fatalf("Search(%s, %s, %v) = %d, %v, expected %d", showAll(part), showAll(l), o, i, e, want)
	}
	want = -1
	for i := max(len(part), len(l)) - 1; i >= 0; i-- {
		if i >= len(part) || i >= len(l) || !likeness(o.Test)(part[i], l[i]) {
			want = i
		}
	}
	if i, e := Mismatch(part, l, o); i != want || e != api.OK {
		t.Fatalf("Mismatch(%s, %s, %v) = %d, %v, expected %d", showAll(part), showAll(l), o, i, e, want)
	}
}
