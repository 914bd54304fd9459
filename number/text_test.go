package number

import (
	"math"
	"strings"
	"testing"

	"commonform/api"
	"commonform/integer"
)

func intOf(n int64) integer.Int { return integer.New(n) }

// P5.1: Read.
func TestRead(t *testing.T) {
	ratio := func(s string) api.Form { return api.Form{Kind: api.FormRatio, Text: s} }
	double := func(s string) api.Form { return api.Form{Kind: api.FormDouble, Text: s} }
	const one, half = "3ff0000000000000", "3fe0000000000000"
	for _, c := range []struct {
		s    string
		base int
		wide bool
		want api.Form
	}{
		{"+06/4", 10, false, ratio("3/2")}, {"4/2", 10, false, wholeText("2")}, {"-0", 10, false, wholeText("0")}, {"+007", 10, false, wholeText("7")}, {"-ff", 16, false, wholeText("-255")}, {"zZ", 36, false, wholeText("1295")}, {"-A/f", 16, false, ratio("-2/3")}, {"0/5", 10, false, wholeText("0")},
		{"1e5", 10, false, singleBits("47c35000")}, {"1e5", 16, false, wholeText("485")}, {"1E+5", 16, false, singleBits("47c35000")}, {"1d0", 16, false, wholeText("464")}, {"1d0", 10, false, double(one)}, {"1.0d0", 16, false, double(one)}, {"10.", 2, false, wholeText("10")}, {"-99.", 2, false, wholeText("-99")}, {"+1.", 10, true, wholeText("1")}, {"12.5", 2, false, singleBits("41480000")},
		{".5", 10, true, double(half)}, {".5", 10, false, singleBits("3f000000")}, {"-.5", 10, false, singleBits("bf000000")}, {"5S-1", 10, true, singleBits("3f000000")}, {"5f-1", 10, true, singleBits("3f000000")}, {"5F-1", 10, true, singleBits("3f000000")}, {"5d-1", 10, false, double(half)}, {"5D-1", 10, false, double(half)}, {"5l-1", 10, false, double(half)}, {"5L-1", 10, false, double(half)}, {"5e-1", 10, true, double(half)}, {"5E-1", 10, false, singleBits("3f000000")}, {"1.e2", 10, false, singleBits("42c80000")}, {".1e1", 10, false, singleBits("3f800000")}, {"1.0", 10, false, singleBits("3f800000")}, {"-0.0", 10, false, singleBits("80000000")}, {"-0d0", 10, false, double("8000000000000000")}, {"1e-99", 10, false, singleBits("00000000")}, {"0/1", 2, false, wholeText("0")}, {"1e+05", 10, false, singleBits("47c35000")},
	} {
		x, e := Read(c.s, c.base, c.wide)
		if e != api.OK || x.Kind != c.want.Kind || x.Text != c.want.Text || x.Home != "" || len(x.Kids) > 0 {
			t.Errorf("Read(%q, %d, %v) = %v, %v; want %v", c.s, c.base, c.wide, x, e, c.want)
		}
	}
	long := strings.Repeat("1", api.MaxDigits)
	for _, c := range []struct {
		s    string
		base int
		want api.Errno
	}{
		{"", 10, api.ErrForm}, {"+", 10, api.ErrForm}, {"-", 10, api.ErrForm}, {".", 10, api.ErrForm}, {"+.", 10, api.ErrForm}, {"1+", 10, api.ErrForm}, {"1x0", 10, api.ErrForm}, {"1e", 10, api.ErrForm}, {"1e+", 10, api.ErrForm}, {"e1", 10, api.ErrForm}, {".e1", 10, api.ErrForm}, {"1e5.", 10, api.ErrForm}, {"1e5e5", 10, api.ErrForm}, {"1..", 10, api.ErrForm}, {"1.2.3", 10, api.ErrForm}, {"--1", 10, api.ErrForm}, {"+-1", 10, api.ErrForm}, {"1 ", 10, api.ErrForm}, {"1/", 10, api.ErrForm}, {"/2", 10, api.ErrForm}, {"1/-2", 10, api.ErrForm}, {"1/+2", 10, api.ErrForm}, {"1/2/3", 10, api.ErrForm}, {"1./2", 10, api.ErrForm}, {"1/2.", 10, api.ErrForm}, {"a", 10, api.ErrForm}, {"2", 2, api.ErrForm}, {"1/2", 2, api.ErrForm}, {"1b0", 10, api.ErrForm}, {"1é0", 10, api.ErrForm}, {"１", 10, api.ErrForm}, {"1\x00", 10, api.ErrForm}, {"#C(1 2)", 10, api.ErrForm}, {"inf", 10, api.ErrForm}, {"1e1/2", 10, api.ErrForm}, {"\xff", 10, api.ErrForm}, {"1%0", 10, api.ErrForm}, {"a.", 16, api.ErrForm}, {"a.5", 16, api.ErrForm},
		{"1/0", 10, api.ErrZero}, {"-5/000", 10, api.ErrZero}, {"0/0", 2, api.ErrZero},
		{"1e39", 10, api.ErrOver}, {"-1e39", 10, api.ErrOver}, {"1d309", 10, api.ErrOver}, {"1d39", 10, api.OK}, {"1s39", 10, api.ErrOver},
		{"1", 1, api.ErrArg}, {"1", 37, api.ErrArg}, {"?", 0, api.ErrArg}, {"1", math.MinInt, api.ErrArg}, {long + "1", 37, api.ErrArg},
		{long, 10, api.OK}, {long + "1", 10, api.ErrLarge}, {long + "?", 10, api.ErrLarge}, {long[1:] + ".", 10, api.OK}, {long, 11, api.ErrLarge}, {long[:18000], 36, api.ErrLarge},
	} {
		if x, e := Read(c.s, c.base, false); e != c.want || e != api.OK && (x.Kind != 0 || x.Text != "") {
			t.Errorf("Read(%.30q, %d): %v; want %v", c.s, c.base, e, c.want)
		}
	}
}

// P5.1: Print.
func TestPrint(t *testing.T) {
	for _, c := range []struct {
		x           string
		base        int
		radix, wide bool
		want        string
	}{
		{"-255", 16, false, false, "-FF"}, {"-255", 16, true, false, "#x-FF"}, {"5", 2, true, false, "#b101"}, {"-9", 8, true, false, "#o-11"}, {"5", 3, true, false, "#3r12"}, {"35", 36, true, false, "#36rZ"}, {"12", 10, true, false, "12."}, {"12", 10, false, false, "12"}, {"1/2", 10, true, false, "#10r1/2"}, {"-1/2", 2, true, false, "#b-1/10"}, {"-10/11", 16, false, false, "-A/B"},
		{"1.5", 16, true, false, "1.5"}, {"1.5", 10, true, true, "1.5f0"}, {"1.5d0", 10, false, true, "1.5"}, {"1.5d0", 10, false, false, "1.5d0"}, {"1e7", 10, false, false, "1.0e7"}, {"-0.0", 2, false, false, "-0.0"},
		{"#C(1 2)", 10, false, false, "#C(1 2)"}, {"#C(-1/2 10)", 2, false, false, "#C(-1/10 1010)"}, {"#C(1/2 3)", 10, true, false, "#C(#10r1/2 3.)"}, {"#C(1.0 -2.0)", 2, true, true, "#C(1.0f0 -2.0f0)"},
	} {
		if s, e := Print(num(t, c.x), c.base, c.radix, c.wide); s != c.want || e != api.OK {
			t.Errorf("Print of %s = %q, %v; want %q", c.x, s, e, c.want)
		}
	}
	for _, base := range []int{-1, 0, 1, 37, math.MinInt, math.MaxInt} {
		if s, e := Print(wholeText("1"), base, true, false); s != "" || e != api.ErrArg {
			t.Errorf("Print in the base %d = %q, %v", base, s, e)
		}
	}
	// the text has no Text of a number, so that it may be longer
	if s, e := Print(wholeText(strings.Repeat("9", 10000)), 2, false, false); e != api.OK || len(s) != 33220 {
		t.Errorf("Print of many digits: %d bytes, %v", len(s), e)
	}
}

// P5.7.
func TestTextLaws(t *testing.T) {
	base := 2
	eachSome(t, 3, func(x, y, z api.Form) {
		base = 2 + (base-1)%35
		for _, wide := range []bool{false, true} {
			s, e := Print(x, base, false, wide)
			if e != api.OK {
				t.Errorf("Print of %v: %v", x, e)
			}
			if back, e := Read(s, base, wide); e != api.OK || !eql(back, x) {
				t.Errorf("Read(%q, %d, %v) = %v, %v; want %v", s, base, wide, back, e, x)
			}
		}
	})
}
