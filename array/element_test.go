package array

import (
	"slices"
	"testing"

	"commonform/api"
	"commonform/forms"
)

// P11.1, P11.2: indices and subscripts, and their errors.
func TestIndices(t *testing.T) {
	r := room(t, own(2, 3), own(), own(3, 0), filled(own(4), 1))
	for _, c := range []struct {
		a    int
		at   []int
		want int
		e    api.Errno
	}{
		{0, []int{0, 0}, 0, api.OK}, {0, []int{1, 2}, 5, api.OK}, {0, []int{1, 0}, 3, api.OK},
		{0, []int{2, 0}, 0, api.ErrRange}, {0, []int{0, 3}, 0, api.ErrRange}, {0, []int{0, -1}, 0, api.ErrRange},
		{0, []int{9}, 0, ErrRank}, {0, []int{0, 0, 0}, 0, ErrRank}, {0, nil, 0, ErrRank},
		{1, nil, 0, api.OK}, {1, []int{0}, 0, ErrRank},
		{2, []int{0, 0}, 0, api.ErrRange}, {3, []int{3}, 3, api.OK}, {3, []int{4}, 0, api.ErrRange},
	} {
		if n, e := r.Index(c.a, c.at); n != c.want || e != c.e {
			t.Errorf("Index(%d, %v) = %d, %v, expected %d, %v", c.a, c.at, n, e, c.want, c.e)
		}
	}
	for _, c := range []struct {
		dims  []int
		index int
		want  []int
		e     api.Errno
	}{
		{[]int{2, 3}, 4, []int{1, 1}, api.OK}, {[]int{2, 3}, 0, []int{0, 0}, api.OK}, {nil, 0, nil, api.OK},
		{[]int{2, 3}, 6, nil, api.ErrRange}, {[]int{2, 3}, -1, nil, api.ErrRange}, {nil, 1, nil, api.ErrRange}, {[]int{2, 0}, 0, nil, api.ErrRange},
		{[]int{2001}, 0, nil, api.ErrRange}, {[]int{50, 50}, -1, nil, api.ErrLarge}, {[]int{1, 1, 1, 1, 1, 1, 1, -1}, 0, nil, api.ErrSize},
	} {
		if at, e := Subscripts(c.dims, c.index); !slices.Equal(at, c.want) || e != c.e {
			t.Errorf("Subscripts(%v, %d) = %v, %v, expected %v, %v", c.dims, c.index, at, e, c.want, c.e)
		}
	}
}

// P11.2: Index undoes Subscripts, which rise with the index, the last one fastest.
func TestIndexLaws(t *testing.T) {
	for _, dims := range [][]int{{}, {1}, {7}, {2, 3}, {3, 2}, {1, 4, 1}, {2, 3, 4}, {2, 1, 2, 1, 2, 1, 2}, {1, 1, 1, 1, 1, 1, 1}, {2000}, {3, 0, 2}} {
		r := room(t, own(dims...))
		size, e := r.Total(0)
		if e != api.OK {
			t.Fatal(e)
		}
		var last []int
		for index := range size {
			at, e := Subscripts(dims, index)
			if e != api.OK {
				t.Fatalf("Subscripts(%v, %d): %v", dims, index, e)
			}
			if n, e := r.Index(0, at); e != api.OK || n != index {
				t.Fatalf("Index(%v, %v) = %d, %v, expected %d", dims, at, n, e, index)
			}
			if index > 0 && slices.Compare(last, at) >= 0 {
				t.Fatalf("%v: %v stands behind %v", dims, at, last)
			}
			if n := len(dims) - 1; index > 0 && at[n] != (last[n]+1)%dims[n] {
				t.Fatalf("%v: the last subscript of %v does not follow %v", dims, at, last)
			}
			last = at
		}
		if _, e := Subscripts(dims, size); e != api.ErrRange {
			t.Errorf("Subscripts(%v, %d): %v", dims, size, e)
		}
	}
}

// P11.1: sizes and lengths.
func TestSizes(t *testing.T) {
	r := room(t, own(), own(2, 3), own(5), filled(own(5), 2), own(0), own(4, 0, 3))
	for a, want := range []struct {
		total, length int
		e             api.Errno
	}{{1, 0, ErrRank}, {6, 0, ErrRank}, {5, 5, api.OK}, {5, 2, api.OK}, {0, 0, api.OK}, {0, 0, ErrRank}} {
		if n, e := r.Total(a); n != want.total || e != api.OK {
			t.Errorf("Total(%d) = %d, %v", a, n, e)
		}
		if n, e := r.Length(a); n != want.length || e != want.e {
			t.Errorf("Length(%d) = %d, %v", a, n, e)
		}
	}
}

// P11.3: what is displaced shows elements of its target, also through others, and behind fill pointers.
func TestDisplaced(t *testing.T) {
	r := room(t, own(2, 3), displaced(0, 2, 3), displaced(1, 1, 2, 1), displaced(1, 3, 0), filled(displaced(0, 0, 6), 1))
	if s := contents(t, r, 1) + "|" + contents(t, r, 2) + "|" + contents(t, r, 3) + "|" + contents(t, r, 4); s != "2 3 4|3 4||0" {
		t.Errorf("Contents = %s", s)
	}
	for _, c := range [][4]int{{0, 5, 0, 5}, {1, 0, 0, 2}, {2, 1, 0, 4}, {4, 5, 0, 5}} {
		if a, at, e := r.Where(c[0], c[1]); a != c[2] || at != c[3] || e != api.OK {
			t.Errorf("Where(%d, %d) = %d, %d, %v", c[0], c[1], a, at, e)
		}
	}
	if e := r.Set(2, 0, str("x")); e != api.OK {
		t.Error(e)
	}
	if s := contents(t, r, 0); s != "0 1 2 x 4 5" {
		t.Errorf("Contents behind Set = %s", s)
	}
	if e := r.Set(4, 5, str("y")); e != api.OK { // the fill pointer plays no part
		t.Error(e)
	}
	f, e := r.Get(0, 5)
	if e != api.OK {
		t.Error(e)
	}
	sameForm(t, "Get", f, str("y"))
	for _, c := range [][2]int{{0, 6}, {0, -1}, {1, 3}, {3, 0}} {
		a, at, e := r.Where(c[0], c[1])
		if a != 0 || at != 0 || e != api.ErrRange {
			t.Errorf("Where(%v) = %d, %d, %v", c, a, at, e)
		}
		if f, e := r.Get(c[0], c[1]); f.Kind != 0 || e != api.ErrRange {
			t.Errorf("Get(%v) = %v, %v", c, f, e)
		}
		expect(t, "Set", r.Set(c[0], c[1], api.Form{}), api.ErrRange)
	}
}

// P11.1: the errors of an element.
func TestSetErrors(t *testing.T) {
	r := room(t, own(2), bitted(own(2)), bitted(displaced(1, 0, 2)))
	for _, c := range []struct {
		a    int
		x    api.Form
		want api.Errno
	}{
		{0, api.Form{}, api.ErrForm}, {0, labelled(), api.ErrForm}, {0, vec(labelled()), api.ErrForm}, {0, node(api.FormRef, "1"), api.ErrForm}, {0, nested(101), api.ErrForm},
		{0, nested(100), api.OK}, {0, node(api.FormSingle, "7f800000"), api.OK},
		{1, num(2), ErrBits}, {1, num(-1), ErrBits}, {1, str("0"), ErrBits}, {1, node(api.FormBits, "1"), ErrBits}, {1, api.Form{}, api.ErrForm}, {1, num(1), api.OK}, {2, num(2), ErrBits}, {2, num(0), api.OK},
	} {
		expect(t, show([]api.Form{c.x}), r.Set(c.a, 1, c.x), c.want)
	}
}

// P11.1: the forms of arrays.
func TestForm(t *testing.T) {
	r := room(t, own(2), filled(own(3), 2), own(2, 1), own(), bitted(own(3)), bitted(filled(own(3), 1)), bitted(own(1, 2)), own(0, 3), own(0), bitted(own(0)))
	expect(t, "Set", r.Set(4, 1, num(1)), api.OK)
	zero, one := num(0), num(1)
	for a, want := range []api.Form{
		vec(zero, one), vec(zero, one), node(api.FormArray, "2 1", zero, one), node(api.FormArray, "", zero), node(api.FormBits, "010"), node(api.FormBits, "0"),
		node(api.FormArray, "1 2", zero, zero), node(api.FormArray, "0 3"), vec(), node(api.FormBits, ""),
	} {
		f, e := r.Form(a)
		if e != api.OK || forms.Check(f) != api.OK {
			t.Errorf("Form(%d): %v, %v", a, e, forms.Check(f))
		}
		sameForm(t, "Form", f, want)
	}
}

// P11.1: forms that would be too large or too deep.
func TestLargeForms(t *testing.T) {
	r := room(t, own(1999), own(2000), filled(own(2000), 1999), bitted(own(2000)), own(40, 50), own(1))
	for a, want := range []api.Errno{api.OK, api.ErrSize, api.OK, api.OK, api.ErrSize, api.OK} {
		f, e := r.Form(a)
		if e != want || e != api.OK && f.Kind != 0 {
			t.Errorf("Form(%d): %v, %v, expected %v", a, f.Kind, e, want)
		}
	}
	for _, c := range []struct {
		depth int
		want  api.Errno
	}{{99, api.OK}, {100, api.ErrSize}} {
		expect(t, "Set", r.Set(5, 0, nested(c.depth)), api.OK)
		_, e := r.Form(5)
		expect(t, "Form", e, c.want)
		if l, e := r.Contents(5); e != api.OK || len(l) != 1 {
			t.Errorf("Contents of a deep element: %v", e)
		}
	}
}
