package number

import (
	"testing"

	"commonform/api"
)

// P5.1: Equals, Eql and Cmp.
func TestComparing(t *testing.T) {
	third := "11184811/33554432"
	for _, c := range []struct {
		x, y   string
		equals bool
		eql    bool
		cmp    string
	}{
		{"1", "1", true, true, "0"}, {"1", "1.0", true, false, "0"}, {"1.0", "1d0", true, false, "0"}, {"0.1", "0.1d0", false, false, "1"}, {"0.0", "-0.0", true, false, "0"}, {"0", "-0d0", true, false, "0"}, {"1/3", "0.33333334", false, false, "-1"}, {third, "0.33333334", true, false, "0"}, {"-2", "1/2", false, false, "-1"}, {"2", "3/2", false, false, "1"},
		{"#C(1.0 0.0)", "1", true, false, "13"}, {"1", "#C(1.0 0.0)", true, false, "13"}, {"#C(1 2)", "#C(1.0 2.0)", true, false, "13"}, {"#C(1 2)", "#C(1 2)", true, true, "13"}, {"#C(1 2)", "#C(1 3)", false, false, "13"}, {"#C(1 2)", "#C(2 2)", false, false, "13"}, {"#C(0 1)", "0", false, false, "13"},
		{"123456789012345678901234567890", "1.2345679e29", false, false, "-1"}, {"16777217", "16777216.0", false, false, "1"},
	} {
		x, y := num(t, c.x), num(t, c.y)
		equals, e := Equals(x, y)
		same, d := Eql(x, y)
		n, f := Cmp(x, y)
		cmp := show(wholeText([]string{"-1", "0", "1"}[n+1]), api.OK)
		if f != api.OK {
			cmp = f.Error()
			if n != 0 {
				t.Errorf("Cmp with an error returns %d", n)
			}
		}
		if equals != c.equals || same != c.eql || cmp != c.cmp || e != api.OK || d != api.OK {
			t.Errorf("%s and %s: Equals %v, Eql %v, Cmp %s", c.x, c.y, equals, same, cmp)
		}
	}
}

// P5.3.
func TestComparingLaws(t *testing.T) {
	eachSome(t, 3, func(x, y, z api.Form) {
		if near, e := Float(x, api.FormSingle); e == api.OK {
			y = near // so that more of them are equal, or almost
		}
		cmp := func(a, b api.Form) int {
			c, e := Cmp(a, b)
			equal, d := Equals(a, b)
			if e != api.OK || d != api.OK || equal != (c == 0) {
				t.Errorf("Cmp of %v and %v = %d, %v; Equals %v, %v", a, b, c, e, equal, d)
			}
			if eql(a, b) && !equal {
				t.Errorf("%v and %v are Eql and not equal", a, b)
			}
			return c
		}
		if cmp(x, x) != 0 || cmp(x, y) != -cmp(y, x) {
			t.Errorf("Cmp of %v and %v is no order", x, y)
		}
		if cmp(x, y) <= 0 && cmp(y, z) <= 0 && cmp(x, z) > 0 {
			t.Errorf("Cmp is not transitive: %v, %v, %v", x, y, z)
		}
	})
	eachSome(t, 4, func(x, y, z api.Form) {
		if is, e := Equals(x, x); !is || e != api.OK {
			t.Errorf("Equals is not reflexive: %v", x)
		}
		there, _ := Equals(x, y)
		if back, _ := Equals(y, x); there != back {
			t.Errorf("Equals is not symmetric: %v, %v", x, y)
		}
	})
}

// P5.1: Greatest.
func TestGreatest(t *testing.T) {
	for _, c := range []struct {
		l    []string
		want string
	}{
		{nil, "5"}, {[]string{"1"}, "1"}, {[]string{"1", "2.0", "2"}, "2.0"}, {[]string{"1", "2", "2.0"}, "2"}, {[]string{"0.0", "-0.0"}, "0.0"}, {[]string{"-0.0", "0.0"}, "-0.0"}, {[]string{"1/3", "0.33333334", "0.3d0"}, "0.33333334"}, {[]string{"-5", "-7"}, "-5"}, {[]string{"1", "#C(0 1)", "2"}, "13"}, {[]string{"#C(0 1)"}, "13"},
	} {
		var l []api.Form
		for _, s := range c.l {
			l = append(l, num(t, s))
		}
		if s := show(Greatest(l)); s != c.want {
			t.Errorf("Greatest of %v = %s; want %s", c.l, s, c.want)
		}
	}
	if s := show(Greatest([]api.Form{num(t, "#C(0 1)"), wholeText("01")})); s != "13" {
		t.Errorf("the first element with an error decides: %s", s)
	}
	if s := show(Greatest([]api.Form{wholeText("01"), num(t, "#C(0 1)")})); s != "2" {
		t.Errorf("the first element with an error decides: %s", s)
	}
}
