package array

import (
	"slices"
	"testing"

	"commonform/api"
)

// P11.1: the errors of Adjust, one behind the other; with an error nothing has changed.
func TestAdjustErrors(t *testing.T) {
	for _, c := range []struct {
		what    string
		a       int
		dims    []int
		fill    int
		initial api.Form
		want    api.Errno
	}{
		{"not adjustable", 0, []int{-1}, -9, api.Form{}, api.ErrArg},
		{"a wrong dimension", 1, []int{-1}, -9, api.Form{}, api.ErrRange},
		{"too many dimensions", 1, make([]int, 8), -9, api.Form{}, api.ErrSize},
		{"a great size", 1, []int{2000, 2}, -9, api.Form{}, api.ErrLarge},
		{"another rank", 1, []int{3}, 1, api.Form{}, ErrRank},
		{"a fill pointer for an array without one", 1, []int{2, 3}, 0, api.Form{}, ErrFill},
		{"a wrong one for an array without one", 1, []int{2, 3}, -3, api.Form{}, ErrFill},
		{"no fill pointer for a vector with one", 2, []int{2}, -1, api.Form{}, ErrFill},
		{"a wrong fill pointer", 2, []int{4}, -3, api.Form{}, api.ErrRange},
		{"a fill pointer behind the end", 2, []int{4}, 5, api.Form{}, api.ErrRange},
		{"the old fill pointer behind the end", 2, []int{2}, -2, api.Form{}, api.ErrRange},
		{"no form", 2, []int{3}, -2, api.Form{}, api.ErrForm},
		{"a label", 1, []int{3, 3}, -1, labelled(), api.ErrForm},
		{"no bit", 3, []int{3}, -2, num(2), ErrBits},
		{"too small for what is displaced to it", 1, []int{1, 4}, -2, num(0), api.ErrSize},
		{"too small, and no form", 1, []int{1, 4}, -2, api.Form{}, api.ErrForm},
	} {
		r := adjustRoom(t)
		before, _ := r.Of(c.a)
		e := r.Adjust(c.a, c.dims, c.fill, c.initial)
		expect(t, c.what, e, c.want)
		after, _ := r.Of(c.a)
		if !slices.Equal(before.Dims, after.Dims) || before.Fill != after.Fill || contents(t, r, 1) != "0 1 2 3 4 5" || contents(t, r, 4) != "2 3 4" {
			t.Errorf("%s: the room has changed", c.what)
		}
	}
}

func adjustRoom(t *testing.T) *Room {
	return room(t, own(3), adjustable(own(2, 3)), adjustable(filled(own(4), 3)), adjustable(bitted(own(2))), adjustable(displaced(1, 2, 3)), displaced(4, 1, 2))
}

// P11.1: what Adjust leaves, and what it changes.
func TestAdjust(t *testing.T) {
	r := adjustRoom(t)
	expect(t, "Adjust", r.Adjust(1, []int{3, 2}, -1, str("x")), api.OK)
	if s := contents(t, r, 1) + "|" + contents(t, r, 4) + "|" + contents(t, r, 5); s != "0 1 3 4 x x|3 4 x|4 x" {
		t.Errorf("other dimensions: %s", s)
	}
	expect(t, "Adjust", r.Adjust(2, []int{5}, -2, str("x")), api.OK)
	if of, _ := r.Of(2); of.Fill != 3 || !slices.Equal(of.Dims, []int{5}) || contents(t, r, 2) != "0 1 2" {
		t.Errorf("the same fill pointer: %v, %s", of, contents(t, r, 2))
	}
	expect(t, "Adjust", r.Adjust(2, []int{6}, 6, str("y")), api.OK)
	if s := contents(t, r, 2); s != "0 1 2 3 x y" {
		t.Errorf("another fill pointer: %s", s)
	}
	expect(t, "Adjust", r.Adjust(2, []int{2}, 0, str("y")), api.OK)
	if s := contents(t, r, 2); s != "" {
		t.Errorf("the fill pointer 0: %s", s)
	}
	// what is displaced gets elements of its own, and what is displaced to it shows these
	expect(t, "Adjust", r.Adjust(4, []int{4}, -2, str("z")), api.OK)
	of, _ := r.Of(4)
	if of.Target != -1 || of.Offset != 0 || contents(t, r, 4) != "3 4 x z" || contents(t, r, 5) != "4 x" {
		t.Errorf("a displaced array: %v, %s, %s", of, contents(t, r, 4), contents(t, r, 5))
	}
	expect(t, "Set", r.Set(5, 0, str("w")), api.OK)
	if contents(t, r, 4) != "3 w x z" || contents(t, r, 1) != "0 1 3 4 x x" {
		t.Errorf("Set behind Adjust: %s, %s", contents(t, r, 4), contents(t, r, 1))
	}
	expect(t, "Adjust, too small through others", r.Adjust(4, []int{2}, -2, num(0)), api.ErrSize)
	expect(t, "Adjust, just enough", r.Adjust(4, []int{3}, -2, num(0)), api.OK)
}

// P11.5: Adjust to the same dimensions, and to greater ones and back.
func TestAdjustLaws(t *testing.T) {
	for _, dims := range [][]int{{}, {3}, {2, 3}, {2, 0}, {2, 2, 2}} {
		size := total(dims)
		r := room(t, own(9), adjustable(displaced(0, 9-size, dims...)))
		before := contents(t, r, 1)
		expect(t, "Adjust", r.Adjust(1, dims, -2, str("x")), api.OK)
		if of, _ := r.Of(1); of.Target != -1 || contents(t, r, 1) != before {
			t.Errorf("%v: Adjust to the same dimensions: %v, %s", dims, of, contents(t, r, 1))
		}
		if size > 0 {
			expect(t, "Set", r.Set(0, 9-size, str("y")), api.OK)
			if contents(t, r, 1) != before {
				t.Errorf("%v: Adjust did not end the displacement", dims)
			}
		}
		greater := slices.Clone(dims)
		for i := range greater {
			greater[i] += i + 1
		}
		expect(t, "Adjust", r.Adjust(1, greater, -2, str("x")), api.OK)
		expect(t, "Adjust", r.Adjust(1, dims, -2, str("z")), api.OK)
		if s := contents(t, r, 1); s != before {
			t.Errorf("%v: Adjust to %v and back: %s, expected %s", dims, greater, s, before)
		}
	}
}

// P11.1: the errors of Displace, one behind the other.
func TestDisplaceErrors(t *testing.T) {
	for _, c := range []struct {
		what           string
		a              int
		dims           []int
		target, offset int
		want           api.Errno
	}{
		{"not adjustable", 0, []int{-1}, 99, -1, api.ErrArg},
		{"a wrong dimension", 1, []int{2001}, 99, -1, api.ErrRange},
		{"a great size", 1, []int{50, 50}, 99, -1, api.ErrLarge},
		{"another rank", 1, []int{3}, 99, -1, ErrRank},
		{"no such target", 1, []int{1, 1}, 99, -1, api.ErrNone},
		{"a target below 0", 1, []int{1, 1}, -1, 0, api.ErrNone},
		{"itself", 1, []int{1, 1}, 1, -1, api.ErrOrder},
		{"what is displaced to it", 1, []int{1, 1}, 4, -1, api.ErrOrder},
		{"what is displaced to it through another one", 1, []int{1, 1}, 5, -1, api.ErrOrder},
		{"bits", 1, []int{1, 1}, 3, -1, ErrBits},
		{"bits to others", 3, []int{1}, 0, -1, ErrBits},
		{"an offset below 0", 1, []int{1, 1}, 0, -1, api.ErrRange},
		{"behind the end", 1, []int{1, 1}, 0, 3, api.ErrRange},
		{"more than the target", 1, []int{2, 2}, 0, 0, api.ErrRange},
		{"a fill pointer behind the end", 2, []int{2}, 0, 0, api.ErrRange},
		{"too small for what is displaced to it", 1, []int{1, 3}, 0, 0, api.ErrSize},
	} {
		r := adjustRoom(t)
		before, _ := r.Of(c.a)
		expect(t, c.what, r.Displace(c.a, c.dims, c.target, c.offset), c.want)
		after, _ := r.Of(c.a)
		if !slices.Equal(before.Dims, after.Dims) || before.Target != after.Target || before.Offset != after.Offset || contents(t, r, 1) != "0 1 2 3 4 5" {
			t.Errorf("%s: the room has changed", c.what)
		}
	}
}

// P11.1: what Displace makes an array show.
func TestDisplace(t *testing.T) {
	r := room(t, own(9), adjustable(own(2, 3)), adjustable(filled(own(4), 3)), displaced(1, 0, 2))
	expect(t, "Displace", r.Displace(1, []int{1, 2}, 0, 7), api.OK)
	if of, _ := r.Of(1); of.Target != 0 || of.Offset != 7 || contents(t, r, 1) != "7 8" || contents(t, r, 3) != "7 8" {
		t.Errorf("%v: %s, %s", of, contents(t, r, 1), contents(t, r, 3))
	}
	expect(t, "Displace", r.Displace(2, []int{3}, 0, 1), api.OK)
	if of, _ := r.Of(2); of.Fill != 3 || contents(t, r, 2) != "1 2 3" {
		t.Errorf("with a fill pointer: %v, %s", of, contents(t, r, 2))
	}
	expect(t, "Displace", r.Displace(2, []int{6}, 0, 3), api.OK)
	if s := contents(t, r, 2); s != "3 4 5" {
		t.Errorf("to more: %s", s)
	}
	expect(t, "Displace", r.Displace(2, []int{3}, 0, 6), api.OK)
	if s := contents(t, r, 2); s != "6 7 8" {
		t.Errorf("to another place: %s", s)
	}
	if a, at, e := r.Where(3, 1); a != 0 || at != 8 || e != api.OK {
		t.Errorf("Where = %d, %d, %v", a, at, e)
	}
}
