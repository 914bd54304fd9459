package number

import (
	"math/rand"
	"strconv"
	"testing"

	"commonform/api"
)

// num returns the number of a token; #C(a b) is a complex one.
func num(t *testing.T, s string) api.Form {
	t.Helper()
	var re, im string
	if len(s) > 3 && s[:3] == "#C(" {
		re = s[3 : len(s)-1]
		for i := range re {
			if re[i] == ' ' {
				re, im = re[:i], re[i+1:]
				break
			}
		}
		x, e := Complex(num(t, re), num(t, im))
		if e != api.OK {
			t.Fatalf("Complex(%s, %s): %v", re, im, e)
		}
		return x
	}
	x, e := Read(s, 10, false)
	if e != api.OK {
		t.Fatalf("Read(%q): %v", s, e)
	}
	return x
}

func singleBits(text string) api.Form { return api.Form{Kind: api.FormSingle, Text: text} }

func pair(re, im api.Form) api.Form {
	return api.Form{Kind: api.FormComplex, Kids: []api.Form{re, im}}
}

func wholeText(text string) api.Form { return api.Form{Kind: api.FormInt, Text: text} }

// show returns the text of a number, or its error.
func show(x api.Form, e api.Errno) string {
	if e != api.OK {
		if x.Kind != 0 || x.Text != "" || x.Home != "" || len(x.Kids) != 0 {
			return "an error with a result"
		}
		return e.Error()
	}
	s, e := Print(x, 10, false, false)
	if e != api.OK {
		return "Print: " + e.Error()
	}
	return s
}

// some makes numbers by chance. Kinds says how many of these there are: rational, single, double, and complex ones.
type some struct {
	r     *rand.Rand
	kinds int
}

func (m some) rational(t *testing.T) api.Form {
	n := strconv.Itoa(m.r.Intn(41) - 20)
	switch m.r.Intn(4) {
	case 0:
		n = strconv.FormatInt(m.r.Int63()-1<<62, 10)
	case 1:
		return num(t, n)
	}
	return num(t, n+"/"+strconv.Itoa(1+m.r.Intn(12)))
}

func (m some) real(t *testing.T) api.Form {
	switch m.r.Intn(min(m.kinds, 3)) {
	case 0:
		return m.rational(t)
	case 1:
		return num(t, strconv.FormatFloat(m.r.NormFloat64()*float64(m.r.Intn(1000)), 'e', -1, 32))
	}
	x, e := Read(strconv.FormatFloat(m.r.NormFloat64()*float64(m.r.Intn(1000)), 'e', -1, 64), 10, true)
	if e != api.OK {
		t.Fatalf("Read: %v", e)
	}
	return x
}

func (m some) number(t *testing.T) api.Form {
	if m.kinds < 4 && m.kinds > 1 || m.r.Intn(2) == 0 {
		return m.real(t)
	}
	x, e := Complex(m.real(t), m.real(t))
	if e != api.OK {
		t.Fatalf("Complex: %v", e)
	}
	return x
}

// eachSome calls a test with many triples of numbers: with kinds 1 rational ones and complex ones of these, with 3 real ones, with 4 all.
func eachSome(t *testing.T, kinds int, test func(x, y, z api.Form)) {
	t.Helper()
	m := some{rand.New(rand.NewSource(1)), kinds}
	for range 1500 {
		test(m.number(t), m.number(t), m.number(t))
	}
}

func eql(x, y api.Form) bool {
	is, e := Eql(x, y)
	return is && e == api.OK
}

// must returns a result that has no error, and is right.
func must(t *testing.T) func(x api.Form, e api.Errno) api.Form {
	return func(x api.Form, e api.Errno) api.Form {
		t.Helper()
		if e != api.OK {
			t.Errorf("an error: %v", e)
		} else if e := Check(x); e != api.OK {
			t.Errorf("the result %v has the error %v", x, e)
		}
		return x
	}
}
