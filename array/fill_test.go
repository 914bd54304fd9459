package array

import (
	"strings"
	"testing"

	"commonform/api"
)

// P11.1: changing fill pointers.
func TestSetFill(t *testing.T) {
	r := room(t, own(4), filled(own(4), 1), own(2, 2))
	for _, c := range []struct {
		a, fill int
		want    api.Errno
	}{{0, 9, ErrFill}, {2, 0, ErrFill}, {1, -1, api.ErrRange}, {1, 5, api.ErrRange}, {1, 4, api.OK}, {1, 0, api.OK}, {1, 3, api.OK}} {
		expect(t, "SetFill", r.SetFill(c.a, c.fill), c.want)
	}
	if n, e := r.Length(1); n != 3 || e != api.OK {
		t.Errorf("Length = %d, %v", n, e)
	}
	if s := contents(t, r, 1); s != "0 1 2" {
		t.Errorf("Contents = %s", s)
	}
}

// P11.1: the errors of Push and Pop.
func TestPushErrors(t *testing.T) {
	for _, c := range []struct {
		what   string
		a      Array
		x      api.Form
		extend int
		want   api.Errno
	}{
		{"no fill pointer", adjustable(own(2)), api.Form{}, 1, ErrFill},
		{"two dimensions", own(2, 2), api.Form{}, 1, ErrFill},
		{"no form", filled(own(2), 2), api.Form{}, 0, api.ErrForm},
		{"a label", filled(own(2), 0), labelled(), 0, api.ErrForm},
		{"no bit", bitted(filled(own(2), 2)), num(2), 0, ErrBits},
		{"full, not adjustable", filled(own(2), 2), num(0), 5, api.ErrFull},
		{"full, and no room is made", adjustable(filled(own(2), 2)), num(0), 0, api.ErrFull},
		{"full, and less room", adjustable(filled(own(2), 2)), num(0), -1, api.ErrRange},
		{"full, and much less room", adjustable(filled(own(2), 2)), num(0), -1 << 63, api.ErrRange},
		{"full, and not adjustable, and less room", filled(own(2), 2), num(0), -1, api.ErrFull},
		{"full, and too much room", adjustable(filled(own(2), 2)), num(0), 1999, api.ErrRange},
		{"full, and far too much room", adjustable(filled(own(2), 2)), num(0), 1<<63 - 1, api.ErrRange},
		{"full, and the most room", adjustable(filled(own(2), 2)), num(0), 1998, api.OK},
		{"not full, and less room", adjustable(filled(own(2), 1)), num(0), -1, api.OK},
		{"no elements, full", adjustable(filled(own(0), 0)), num(0), 1, api.OK},
	} {
		r := NewRoom()
		if _, e := r.Make(c.a, num(1)); e != api.OK {
			t.Fatal(e)
		}
		n, e := r.Push(0, c.x, c.extend)
		expect(t, c.what, e, c.want)
		if of, _ := r.Of(0); e != api.OK && (n != 0 || of.Fill != c.a.Fill || of.Dims[0] != c.a.Dims[0]) || e == api.OK && n != c.a.Fill {
			t.Errorf("%s: %d, %v", c.what, n, of)
		}
	}
	r := room(t, own(2), filled(own(2), 0))
	for a := range 2 {
		if f, e := r.Pop(a); f.Kind != 0 || e != ErrFill {
			t.Errorf("Pop(%d) = %v, %v", a, f, e)
		}
	}
}

// P11.4: Pop undoes Push, and Push adds an element behind the Contents.
func TestStacks(t *testing.T) {
	r := room(t, own(9), adjustable(filled(own(4), 0)), adjustable(filled(displaced(0, 2, 3), 0)), filled(displaced(0, 5, 4), 0))
	for a := 1; a <= 3; a++ {
		want := ""
		for i := range 4 {
			n, e := r.Push(a, num(10*a+i), 2)
			if n != i || e != api.OK {
				t.Fatalf("Push(%d) = %d, %v", a, n, e)
			}
			want = strings.TrimSpace(want + " " + num(10*a+i).Text)
			if s := contents(t, r, a); s != want {
				t.Fatalf("Contents(%d) = %s, expected %s", a, s, want)
			}
			if _, e := r.Push(a, str("x"), 1); e != api.OK {
				if a == 3 && i == 3 && e == api.ErrFull {
					continue
				}
				t.Fatal(e)
			}
			if f, e := r.Pop(a); e != api.OK || f.Text != "x" {
				t.Fatalf("Pop(%d) = %v, %v", a, f, e)
			}
			if s := contents(t, r, a); s != want {
				t.Fatalf("Contents(%d) behind Pop = %s, expected %s", a, s, want)
			}
		}
	}
	// the second one was adjusted when it was full, and shows nothing of the first one any more
	if s := contents(t, r, 0); s != "0 1 20 21 22 30 31 32 33" {
		t.Errorf("Contents(0) = %s", s)
	}
	of, _ := r.Of(2)
	if of.Target != -1 || of.Dims[0] < 4 || of.Fill != 4 {
		t.Errorf("Of(2) = %v", of)
	}
}

// P11.1: the elements that Push makes room for are the element that is pushed.
func TestPushExtends(t *testing.T) {
	r := room(t, adjustable(filled(own(1), 1)))
	if n, e := r.Push(0, str("x"), 3); n != 1 || e != api.OK {
		t.Fatalf("Push = %d, %v", n, e)
	}
	of, _ := r.Of(0)
	expect(t, "SetFill", r.SetFill(0, 4), api.OK)
	if s := contents(t, r, 0); of.Dims[0] != 4 || of.Fill != 2 || s != "0 x x x" {
		t.Errorf("%v, %s", of, s)
	}
}

// P11.1, P11.6: operations of bits.
func TestBoole(t *testing.T) {
	for op := range 16 {
		r := bitRoom(t)
		expect(t, "Boole", r.Boole(op, 0, 1, 2), api.OK)
		want := ""
		for _, place := range []int{0, 1, 2, 3} {
			want += string(rune('0' + op>>place&1))
		}
		if f, _ := r.Form(2); f.Text != want {
			t.Errorf("Boole(%d) of 0011 and 0101 is %s, expected %s", op, f.Text, want)
		}
		expect(t, "Boole", r.Boole(15-op, 0, 1, 3), api.OK)
		for i := range 4 {
			x, _ := r.Get(2, i)
			y, _ := r.Get(3, i)
			if x.Text == y.Text {
				t.Errorf("Boole(%d) is not the complement of Boole(%d)", 15-op, op)
			}
		}
		expect(t, "Boole", r.Boole(12, 2, 1, 3), api.OK)
		if f, _ := r.Form(3); f.Text != want {
			t.Errorf("Boole(12) is %s, expected %s", f.Text, want)
		}
		expect(t, "Boole", r.Boole(6, 2, 2, 2), api.OK)
		if f, _ := r.Form(2); f.Text != "0000" {
			t.Errorf("Boole(6) of an array and itself is %s", f.Text)
		}
	}
}

// bitRoom has the bits 0011, 0101 and twice 0000.
func bitRoom(t *testing.T) *Room {
	r := room(t, bitted(own(4)), bitted(own(4)), bitted(own(4)), bitted(own(4)))
	for i := range 4 {
		expect(t, "Set", r.Set(0, i, num(i/2)), api.OK)
		expect(t, "Set", r.Set(1, i, num(i%2)), api.OK)
	}
	return r
}

// P11.1: elements are set one after the other, also where an array shows those of another one; the fill pointer plays no part.
func TestBooleInOrder(t *testing.T) {
	r := room(t, bitted(own(5)), bitted(displaced(0, 0, 4)), bitted(filled(displaced(0, 1, 4), 1)))
	expect(t, "Set", r.Set(0, 0, num(1)), api.OK)
	expect(t, "Boole", r.Boole(12, 1, 1, 2), api.OK) // each element from the one ahead of it
	if f, _ := r.Form(0); f.Text != "11111" {
		t.Errorf("a copy to the right is %s", f.Text)
	}
	r = room(t, bitted(own(5)), bitted(displaced(0, 0, 4)), bitted(displaced(0, 1, 4)))
	expect(t, "Set", r.Set(0, 4, num(1)), api.OK)
	expect(t, "Boole", r.Boole(12, 2, 2, 1), api.OK)
	if f, _ := r.Form(0); f.Text != "00011" {
		t.Errorf("a copy to the left is %s", f.Text)
	}
}

// P11.1: the errors of Boole, one behind the other.
func TestBooleErrors(t *testing.T) {
	r := room(t, own(4), bitted(own(4)), bitted(own(2, 2)), bitted(own(5)), own(2))
	for _, c := range []struct {
		op, a, b, into int
		want           api.Errno
	}{
		{-1, 0, 0, 0, api.ErrArg}, {16, 0, 0, 0, api.ErrArg}, {16, 9, 0, 0, api.ErrNone}, {0, 0, 1, 1, ErrBits}, {0, 1, 4, 1, ErrBits}, {0, 1, 1, 0, ErrBits}, {0, 1, 2, 0, ErrBits},
		{0, 1, 1, 2, ErrRank}, {0, 2, 1, 1, ErrRank}, {0, 1, 3, 1, ErrRank}, {0, 1, 1, 1, api.OK}, {15, 2, 2, 2, api.OK},
	} {
		expect(t, "Boole", r.Boole(c.op, c.a, c.b, c.into), c.want)
	}
	if f, _ := r.Form(2); f.Text != "2 2" || show(f.Kids) != "1 1 1 1" {
		t.Errorf("Boole of arrays is %v", f)
	}
}
