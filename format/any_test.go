package format

import (
	"math/rand"
	"strings"
	"testing"

	"commonform/api"
)

// anyControl makes a control string by chance, right or not.
func anyControl(r *rand.Rand) string {
	pieces := []string{"~", "~", "~A", "~S", "~D", "~R", "~C", "~F", "~$", "~P", "~%", "~&", "~T", "~*", "~?", "~(", "~)", "~[", "~]", "~{", "~}", "~<", "~>", "~;", "~:;", "~^", "~:^", "~:{", "~@{", "~:@{", "~:[", "~@[", "~:}", "~@?", "~:*", "~@*", "~v", "~#", "~1,", "~'x", "~:", "~@", "v", "#", "2", ",", "'", ":", "@", "A", "x", "\n", " ", "é", "-", "1000", "~:P", "~v,", "~0", "{", "}", "[", "<"}
	var b strings.Builder
	for range r.Intn(12) {
		b.WriteString(pieces[r.Intn(len(pieces))])
	}
	return b.String()
}

func anyForm(r *rand.Rand, depth int) api.Form {
	switch r.Intn(14) {
	case 0:
		return num([]string{"0", "1", "2", "-1", "1001", "12345678901234567890"}[r.Intn(6)])
	case 1:
		return str(anyControl(r))
	case 2:
		return char([]string{"x", "é", "*"}[r.Intn(3)])
	case 3:
		return single([]string{"3f800000", "7f800000", "bf000000"}[r.Intn(3)])
	case 4:
		return ratio("1/3")
	case 5:
		return node(r.Intn(17)-1, []string{"", "1", "x", "\xff"}[r.Intn(4)])
	case 6:
		return sym("X")
	case 7:
		return list()
	}
	if depth == 0 {
		return num("3")
	}
	var l []api.Form
	for range r.Intn(4) {
		l = append(l, anyForm(r, depth-1))
	}
	return list(l...)
}

// P1: no function panics, and with an error every other result is its zero value; Check and Format agree.
func TestAnyArguments(t *testing.T) {
	r := rand.New(rand.NewSource(4))
	codes := map[api.Errno]int{}
	for range 60000 {
		control := anyControl(r)
		var args []api.Form
		for range r.Intn(6) {
			args = append(args, anyForm(r, 3))
		}
		bad := Check(control)
		s, e := Format(control, args)
		if e != api.OK && s != "" || bad != api.OK && e != bad {
			t.Fatalf("Format(%q, %s) = %q, %v; the control string has the error %v", control, show(args), s, e, bad)
		}
		if again, f := Format(control, args); again != s || f != e {
			t.Fatalf("Format(%q, %s) = %q, %v, and then %q, %v", control, show(args), s, e, again, f)
		}
		codes[e]++
		x := anyForm(r, 1)
		for _, result := range []func() (string, api.Errno){
			func() (string, api.Errno) { return Cardinal(x) }, func() (string, api.Errno) { return Ordinal(x) }, func() (string, api.Errno) { return Roman(x, r.Intn(2) == 0) },
			func() (string, api.Errno) { return Grouped(control, control, r.Intn(5)-1) }, func() (string, api.Errno) { return Cased(control, r.Intn(2) == 0, r.Intn(2) == 0) },
			func() (string, api.Errno) {
				return Justified(strings.Split(control, "~"), r.Intn(9)-1, r.Intn(4), r.Intn(4)-1, " x"[:r.Intn(3)], r.Intn(2) == 0, r.Intn(2) == 0)
			},
		} {
			if s, e := result(); e != api.OK && s != "" {
				t.Fatalf("%q with %v", s, e)
			}
		}
	}
	for _, e := range []api.Errno{api.OK, api.ErrForm, api.ErrNone, api.ErrType, api.ErrRange, api.ErrFull} {
		if codes[e] == 0 {
			t.Errorf("no control string has the error %v", e)
		}
	}
}
