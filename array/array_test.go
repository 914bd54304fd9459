package array

import (
	"slices"
	"testing"

	"commonform/api"
)

// P11.1: the errors of Make, one behind the other.
func TestMakeErrors(t *testing.T) {
	seven := []int{1, 1, 1, 1, 1, 1, 1}
	for _, c := range []struct {
		what    string
		a       Array
		initial api.Form
		want    api.Errno
	}{
		{"no dimensions", own(), num(0), api.OK},
		{"seven dimensions", own(seven...), num(0), api.OK},
		{"eight dimensions", own(append(seven, -1)...), api.Form{}, api.ErrSize},
		{"a dimension below 0", own(-1), api.Form{}, api.ErrRange},
		{"a dimension of 2000", own(2000), num(0), api.OK},
		{"a dimension of 2001", own(2001), num(0), api.ErrRange},
		{"a wrong dimension behind a large size", own(2000, 2000, 2001), num(0), api.ErrRange},
		{"the size 2000", own(40, 50), num(0), api.OK},
		{"the size 2001", own(3, 667), num(0), api.ErrLarge},
		{"a great size", own(2000, 2000, 2000, 2000, 2000, 2000, 2000), num(0), api.ErrLarge},
		{"a great size and a 0", own(2000, 2000, 2000, 2000, 2000, 2000, 0), num(0), api.OK},
		{"a fill pointer without a dimension", filled(own(), 0), num(0), ErrRank},
		{"a fill pointer with two dimensions", filled(own(2, 2), -2), num(0), ErrRank},
		{"a size and a fill pointer", filled(own(2000, 2), 0), num(0), api.ErrLarge},
		{"a fill pointer of 0", filled(own(2), 0), num(0), api.OK},
		{"a fill pointer at the end", filled(own(2), 2), num(0), api.OK},
		{"a fill pointer behind the end", filled(own(2), 3), num(0), api.ErrRange},
		{"a fill pointer of -2", filled(own(2), -2), num(0), api.ErrRange},
		{"a fill pointer and a target", Array{Dims: []int{2}, Fill: 3, Target: -2}, num(0), api.ErrRange},
		{"a target of -2", displaced(-2, 0, 2), num(0), api.ErrArg},
		{"an offset without a target", displaced(-1, 1, 2), api.Form{}, api.ErrArg},
		{"an offset below 0 without a target", displaced(-1, -1, 2), num(0), api.ErrArg},
		{"no such target", displaced(99, -1, 2), api.Form{}, api.ErrNone},
		{"itself as a target", displaced(3, 0, 2), num(0), api.ErrNone},
		{"bits displaced to others", bitted(displaced(0, -1, 2)), num(0), ErrBits},
		{"others displaced to bits", displaced(1, 9, 2), num(0), ErrBits},
		{"bits displaced to bits", bitted(displaced(1, 2, 4)), api.Form{}, api.OK},
		{"an offset below 0", displaced(0, -1, 2), num(0), api.ErrRange},
		{"all of a target", displaced(0, 0, 3, 2), api.Form{}, api.OK},
		{"the end of a target", displaced(0, 4, 2), labelled(), api.OK},
		{"behind the end of a target", displaced(0, 5, 2), num(0), api.ErrRange},
		{"nothing behind the end of a target", displaced(0, 6, 0), num(0), api.OK},
		{"nothing farther behind it", displaced(0, 7, 0), num(0), api.ErrRange},
		{"an offset that is too great for a sum", displaced(0, 1<<63-1, 2), num(0), api.ErrRange},
		{"more than the target", displaced(0, 0, 7), num(0), api.ErrRange},
		{"behind what a target shows", displaced(2, 0, 3), num(0), api.ErrRange},
		{"no form", own(2), api.Form{}, api.ErrForm},
		{"no form, for no elements", own(0), api.Form{}, api.ErrForm},
		{"a form that is too large", own(2), nested(101), api.ErrForm},
		{"a large form", own(2), nested(100), api.OK},
		{"a label", own(2), labelled(), api.ErrForm},
		{"a label inside", own(2), vec(num(1), labelled()), api.ErrForm},
		{"a reference", own(2), node(api.FormRef, "1"), api.ErrForm},
		{"no bit", bitted(own(2)), num(2), ErrBits},
		{"a form that is no bit", bitted(own(2)), str("1"), ErrBits},
		{"no form as a bit", bitted(own(2)), node(api.FormInt, "01"), api.ErrForm},
		{"the bit 1", bitted(own(2)), num(1), api.OK},
		{"all arrays may be empty", own(0, 5), num(1), api.OK},
	} {
		r := room(t, own(2, 3), bitted(own(6)), displaced(0, 4, 2))
		n, e := r.Make(c.a, c.initial)
		if e != c.want || e == api.OK && n != 3 || e != api.OK && n != 0 {
			t.Errorf("%s: %d, %v, expected %v", c.what, n, e, c.want)
		}
		if _, e := r.Of(3); (e == api.OK) != (c.want == api.OK) {
			t.Errorf("%s: Of the new array is %v", c.what, e)
		}
	}
}

// P11.1: a room has at most 100 arrays, and this is looked at last.
func TestFullRoom(t *testing.T) {
	r := NewRoom()
	for i := range 100 {
		if n, e := r.Make(own(1), num(0)); e != api.OK || n != i {
			t.Fatalf("array %d: %d, %v", i, n, e)
		}
	}
	if n, e := r.Make(own(1), num(0)); e != api.ErrFull || n != 0 {
		t.Errorf("the 101st one: %d, %v", n, e)
	}
	_, e := r.Make(own(1), api.Form{})
	expect(t, "the 101st one, of no form", e, api.ErrForm)
	_, e = r.Make(displaced(0, 0, 1), num(0))
	expect(t, "the 101st one, displaced", e, api.ErrFull)
}

// P11.1: all methods of a nil room are ErrArg, and of an array that there is not ErrNone, ahead of all else.
func TestNoRoomAndNoArray(t *testing.T) {
	calls := map[string]func(r *Room, a int) (api.Errno, bool){
		"Of":       func(r *Room, a int) (api.Errno, bool) { x, e := r.Of(a); return e, x.Dims == nil && x.Fill == 0 },
		"Adjust":   func(r *Room, a int) (api.Errno, bool) { return r.Adjust(a, []int{-1}, -9, api.Form{}), true },
		"Displace": func(r *Room, a int) (api.Errno, bool) { return r.Displace(a, []int{-1}, -9, -9), true },
		"Total":    func(r *Room, a int) (api.Errno, bool) { n, e := r.Total(a); return e, n == 0 },
		"Length":   func(r *Room, a int) (api.Errno, bool) { n, e := r.Length(a); return e, n == 0 },
		"Index":    func(r *Room, a int) (api.Errno, bool) { n, e := r.Index(a, []int{-1}); return e, n == 0 },
		"Where":    func(r *Room, a int) (api.Errno, bool) { x, y, e := r.Where(a, -1); return e, x == 0 && y == 0 },
		"Get":      func(r *Room, a int) (api.Errno, bool) { f, e := r.Get(a, -1); return e, f.Kind == 0 },
		"Set":      func(r *Room, a int) (api.Errno, bool) { return r.Set(a, -1, api.Form{}), true },
		"Contents": func(r *Room, a int) (api.Errno, bool) { l, e := r.Contents(a); return e, len(l) == 0 },
		"Form":     func(r *Room, a int) (api.Errno, bool) { f, e := r.Form(a); return e, f.Kind == 0 },
		"SetFill":  func(r *Room, a int) (api.Errno, bool) { return r.SetFill(a, -1), true },
		"Push":     func(r *Room, a int) (api.Errno, bool) { n, e := r.Push(a, api.Form{}, 0); return e, n == 0 },
		"Pop":      func(r *Room, a int) (api.Errno, bool) { f, e := r.Pop(a); return e, f.Kind == 0 },
		"Boole 1":  func(r *Room, a int) (api.Errno, bool) { return r.Boole(-1, a, 0, 0), true },
		"Boole 2":  func(r *Room, a int) (api.Errno, bool) { return r.Boole(-1, 0, a, 0), true },
		"Boole 3":  func(r *Room, a int) (api.Errno, bool) { return r.Boole(-1, 0, 0, a), true },
	}
	for name, call := range calls {
		if e, zero := call(nil, 0); e != api.ErrArg || !zero {
			t.Errorf("%s of a nil room: %v, %v", name, e, zero)
		}
		for _, a := range []int{-1, 1, 1 << 40} {
			if e, zero := call(room(t, own(2, 2)), a); e != api.ErrNone || !zero {
				t.Errorf("%s of the array %d: %v, %v", name, a, e, zero)
			}
		}
	}
	if n, e := (*Room)(nil).Make(own(1), num(0)); e != api.ErrArg || n != 0 {
		t.Errorf("Make in a nil room: %d, %v", n, e)
	}
}

// P11.1: Of tells how an array lies now, and shares nothing with the room; nor does Make.
func TestOf(t *testing.T) {
	dims := []int{2, 3}
	r := NewRoom()
	if _, e := r.Make(adjustable(own(dims...)), num(7)); e != api.OK {
		t.Fatal(e)
	}
	dims[0] = 9
	of, e := r.Of(0)
	if e != api.OK || !slices.Equal(of.Dims, []int{2, 3}) || of.Fill != -1 || of.Target != -1 || !of.Adjustable || of.Bits {
		t.Errorf("Of = %v, %v", of, e)
	}
	of.Dims[0] = 9
	if of, _ := r.Of(0); of.Dims[0] != 2 {
		t.Errorf("Of shares its dimensions with the room")
	}
	if _, e := r.Make(bitted(own(4)), num(1)); e != api.OK {
		t.Fatal(e)
	}
	if _, e := r.Make(filled(bitted(displaced(1, 2, 2)), 1), num(1)); e != api.OK {
		t.Fatal(e)
	}
	of, _ = r.Of(2)
	if !slices.Equal(of.Dims, []int{2}) || of.Fill != 1 || of.Target != 1 || of.Offset != 2 || of.Adjustable || !of.Bits {
		t.Errorf("Of = %v", of)
	}
}

// P11.1: elements are the room's own.
func TestElementsAreCopies(t *testing.T) {
	r := NewRoom()
	x := vec(num(1), num(2))
	if _, e := r.Make(adjustable(filled(own(3), 1)), x); e != api.OK {
		t.Fatal(e)
	}
	check := func(what string) {
		t.Helper()
		if s := contents(t, r, 0); s != "(1 2)" {
			t.Errorf("%s changed the room: %s", what, s)
		}
	}
	x.Kids[0] = num(9)
	check("what was handed to Make")
	f, _ := r.Get(0, 0)
	f.Kids[0] = num(9)
	check("what Get returned")
	l, _ := r.Contents(0)
	l[0].Kids[0] = num(9)
	check("what Contents returned")
	f, _ = r.Form(0)
	f.Kids[0].Kids[0] = num(9)
	check("what Form returned")
	x = vec(num(1), num(2))
	if e := r.Set(0, 0, x); e != api.OK {
		t.Error(e)
	}
	x.Kids[0] = num(9)
	check("what was handed to Set")
	x = vec(num(1), num(2))
	if e := r.SetFill(0, 0); e != api.OK {
		t.Error(e)
	}
	if _, e := r.Push(0, x, 0); e != api.OK {
		t.Error(e)
	}
	x.Kids[0] = num(9)
	check("what was handed to Push")
	f, _ = r.Pop(0)
	f.Kids[0] = num(9)
	if e := r.SetFill(0, 1); e != api.OK {
		t.Error(e)
	}
	check("what Pop returned")
	x = vec(num(1), num(2))
	if e := r.Adjust(0, []int{5}, 4, x); e != api.OK {
		t.Error(e)
	}
	x.Kids[0] = num(9)
	if s := contents(t, r, 0); s != "(1 2) (1 2) (1 2) (1 2)" {
		t.Errorf("what was handed to Adjust changed the room: %s", s)
	}
	l, _ = r.Contents(0)
	l[0].Kids[0] = num(9)
	if show(l[1:]) != "(1 2) (1 2) (1 2)" {
		t.Errorf("elements of Contents share memory")
	}
}

// P11.1: the codes of the layer.
func TestCodes(t *testing.T) {
	if ErrRank != 130 || ErrFill != 131 || ErrBits != 132 {
		t.Errorf("the codes are %d, %d, %d", ErrRank, ErrFill, ErrBits)
	}
}
