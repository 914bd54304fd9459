package format

import (
	"math/rand"
	"strings"
	"testing"

	"commonform/api"
	"commonform/forms"
)

// P13.1: the errors of Format, one behind the other; what is put out counts for nothing with an error.
func TestFormatErrors(t *testing.T) {
	bad := node(api.FormInt, "01")
	check(t,
		fails("~Q", api.ErrForm, many(1001, bad)...), fails(strings.Repeat("x", 4001), api.ErrSize, bad), fails("~A", api.ErrSize, many(1001, bad)...), put("x", "x", many(1000, num("1"))...), fails("x", api.ErrForm, bad), fails("~1001A", api.ErrForm, num("1"), bad), fails("x", api.ErrForm, node(api.FormRef, "1")), fails("x", api.ErrForm, api.Form{}), fails("x", api.ErrForm, node(api.FormVector, "", many(2000, num("1"))...)), fails("x", api.ErrForm, node(api.FormLabel, "0", node(api.FormRef, "0"))),
		put("~A", "#0=(a . #0#)", node(api.FormLabel, "4", node(api.FormCons, "", sym("A"), node(api.FormRef, "4")))), fails("~{~A~}", api.ErrForm, list(node(api.FormLabel, "4", str("x")), node(api.FormRef, "4"))), put("~{~A~}", "x", list(node(api.FormLabel, "4", str("x")))), put("x", "x", single("7f800000")),
		fails("abc~A", api.ErrNone), fails("abc~D~1001D", api.ErrRange, num("1")), put("", ""), put("x", "x", num("1")), put("\xff~A\xfe", "\xff1\xfe", num("1")),
	)
	if s, e := Format("~A", []api.Form{num("1")}); s != "1" || e != api.OK {
		t.Errorf("Format: %q, %v", s, e)
	}
}

// P13.1: the output has at most 20000 bytes, wherever it stands.
func TestLongOutput(t *testing.T) {
	half := str(strings.Repeat("x", 10000))
	long, most := strings.Repeat("x", 20000), str(strings.Repeat("x", 20000))
	check(t,
		put("~A", long, most), fails("~A~A", api.ErrFull, most, num("1")), fails("~A.", api.ErrFull, most), put("~A~A", long, half, half), fails("~A~A~%", api.ErrFull, half, half), put("~A~0%", long, most), fails("~A~%~A", api.ErrFull, most), fails("~A~A", api.ErrNone, most), fails("~1000A~A", api.ErrFull, most, most),
		put("~(~A~)", long, most), fails("~(~A.~)", api.ErrFull, most), fails("~A~(~A.~)", api.ErrFull, half, half), put("~A~(~A~)", long, half, half), fails("~A~(~A~)~%", api.ErrFull, half, half), fails("~A~(~A.~A~)", api.ErrFull, half, half), fails("~A~<a~>", api.ErrFull, most), fails("~<~(~A.~)~>", api.ErrFull, most), fails("~20@{~1000%~}~%", api.ErrFull, num("1")),
		put("~20@{~1000%~}", strings.Repeat("\n", 20000), num("1")), fails("~A", api.ErrFull, str(strings.Repeat("x", 20001))), fails("~A", api.ErrForm, str(strings.Repeat("x", 100001))), fails("~A", api.ErrFull, str(strings.Repeat("x", 100000))),
	)
}

// P13.1: at most 10000 directives are performed; each time of an iteration and each part of ~< counts, texts and ~; do not.
func TestManyDirectives(t *testing.T) {
	none := strings.Repeat("~0%", 8)
	times := "~1000{" + none + "~}" // 1 + 1000 * 9
	rest := func(n int) string { return strings.Repeat("~0%", n) }
	one := list(num("1"))
	check(t,
		put(times+rest(999), "", one), fails(times+rest(1000), api.ErrFull, one), fails(times+rest(1000), api.ErrFull, one, num("2")), put(times+rest(999)+strings.Repeat("x", 500), strings.Repeat("x", 500), one),
		put(times+rest(997)+"~<~>", "", one), fails(times+rest(998)+"~<~>", api.ErrFull, one), put(times+rest(996)+"~<~;~>", "", one), fails(times+rest(997)+"~<~;~>", api.ErrFull, one), put(times+rest(996)+"~<~^~;~;~;~>", "", one), put(times+rest(998)+"~1[~;x~;~]", "x", one), put(times+rest(997)+"~(~~~)", "~", one), fails(times+rest(998)+"~(~~~)", api.ErrFull, one), put(times+rest(997)+"~?", "~", one, str("~~"), list()), fails(times+rest(998)+"~?", api.ErrFull, one, str("~~"), list()), put(times+rest(998)+"~\n", "", one), fails(times+rest(999)+"~\n", api.ErrFull, one), fails(times+rest(999)+"~^", api.ErrFull, one), put(times+rest(996)+"~1{~A~}", "1", one, one), fails(times+rest(997)+"~1{~A~}", api.ErrFull, one, one),
		fails("~{~}", api.ErrFull, str(""), one), fails("~@{~:}", api.ErrFull, str(""), num("1")), fails("~@{~:*~}", api.ErrNone, num("1")), fails("~{~A~:*~}", api.ErrFull, one), fails("~:{~0@*~1000{~}~:}", api.ErrFull, list(list(str("x"), one), list(str("x"), one), list(str("x"), one), list(str("x"), one), list(str("x"), one), list(str("x"), one), list(str("x"), one), list(str("x"), one), list(str("x"), one), list(str("x"), one))),
	)
}

// P13.3: a control string without ~ is its own output.
func TestPlainTexts(t *testing.T) {
	r := rand.New(rand.NewSource(1))
	for range 1000 {
		b := make([]byte, r.Intn(20))
		for i := range b {
			b[i] = byte(r.Intn(256))
		}
		s := strings.ReplaceAll(string(b), "~", "")
		check(t, put(s, s, num("1")))
	}
}

// maker makes control strings by chance that take arguments of all kinds.
type maker struct{ *rand.Rand }

func (m maker) pick(l ...string) string { return l[m.Intn(len(l))] }

// simple are directives that take the number of arguments that stands with them.
func (m maker) simple(depth int) (string, []api.Form) {
	one := num(m.pick("0", "1", "-7", "1234567"))
	some := []api.Form{one, str("ab\ncD e"), list(one, sym("X")), char("x"), ratio("-5/3"), single("3fc00000"), list()}[m.Intn(7)]
	switch m.Intn(13) {
	case 0:
		return m.pick("~A", "~S", "~5A", "~7@A", "~:A", "~8,3,1,'.S"), []api.Form{some}
	case 1:
		return m.pick("~D", "~:D", "~@D", "~9D", "~X", "~3R", "~8,'0B", "~P", "~@P"), []api.Form{some}
	case 2:
		return m.pick("~R", "~:R"), []api.Form{one}
	case 3:
		return m.pick("~F", "~,2F", "~8,1F", "~$"), []api.Form{one}
	case 4:
		return m.pick("~%", "~&", "~3&", "~T", "~7T", "~2,5T", "~3,4@T", "~~", "~|", "~0%"), nil
	case 5:
		return m.pick("x", "ab\n", " C d", "~\n  y"), nil
	case 6:
		return m.pick("~VA", "~v,2A"), []api.Form{whole(m.Intn(9)), some}
	case 7:
		return m.pick("~*", "~2*~:*"), m.times(some)
	case 8:
		inner, args := m.control(depth - 1)
		return "~?", []api.Form{str(inner), forms.List(args)}
	case 9:
		inner, args := m.control(depth - 1)
		return m.pick("~(", "~:(", "~@(", "~:@(") + inner + "~)", args
	case 10:
		inner, args := m.control(depth - 1)
		return m.pick("~<", "~12<", "~20:@<", "~,3,1@<") + inner + m.pick("", "~;x") + "~>", args
	case 11:
		inner, args := m.control(depth - 1)
		return "~1[x~;" + inner + "~]", args
	}
	inner, args := m.control(depth - 1)
	return "~1{x" + inner + "~:}", []api.Form{forms.List(args)}
}

// times returns as many arguments as ~* and ~2*~:* pass.
func (m maker) times(x api.Form) []api.Form { return []api.Form{x, x} }

func (m maker) control(depth int) (string, []api.Form) {
	var control strings.Builder
	var args []api.Form
	for range m.Intn(4) * min(depth, 1) {
		text, taken := m.simple(depth)
		if text == "~*" {
			taken = taken[:1]
		} else if text == "~2*~:*" {
			text += "~*"
		}
		control.WriteString(text)
		args = append(args, taken...)
	}
	return control.String(), args
}

// P13.3: the outputs of two control strings, one behind the other, are that of both together.
func TestTogether(t *testing.T) {
	r := maker{rand.New(rand.NewSource(2))}
	for range 4000 {
		first, a := r.control(4)
		second, b := r.control(4)
		if Check(first) != api.OK || Check(first+second) != api.OK {
			continue
		}
		args := append(append([]api.Form{}, a...), b...)
		s, e := Format(first, args)
		if e != api.OK {
			t.Fatalf("Format(%q, %s): %v", first, show(args), e)
		}
		both, e := Format(first+second, args)
		if e != api.OK || !strings.HasPrefix(both, s) {
			t.Fatalf("Format(%q) = %q, %v, and Format(%q) = %q", first+second, both, e, first, s)
		}
		column := len(s) - strings.LastIndex(s, "\n") - 1
		alone, e := Format(strings.Repeat("x", column)+second, b)
		if e != api.OK || s+alone[column:] != both {
			t.Fatalf("Format(%q) = %q, %v, expected %q", first+second, both, e, s+alone[min(column, len(alone)):])
		}
	}
}

// P13.5: ~{~A~} of a list is that of its elements one by one.
func TestElements(t *testing.T) {
	r := maker{rand.New(rand.NewSource(3))}
	for range 1000 {
		var l []api.Form
		want := ""
		for range r.Intn(6) {
			_, args := r.simple(1)
			for _, x := range args {
				l = append(l, x)
				want += output(t, "~A", x)
			}
		}
		check(t, put("~{~A~}", want, forms.List(l)), put("~@{~A~}", want, l...), put(strings.Repeat("~A", len(l)), want, l...))
	}
}
