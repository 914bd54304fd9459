package format

import (
	"strconv"
	"strings"
	"testing"

	"commonform/api"
	"commonform/forms"
)

func node(kind int, text string, kids ...api.Form) api.Form {
	return api.Form{Kind: kind, Text: text, Kids: kids}
}

func num(text string) api.Form { return node(api.FormInt, text) }

func whole(n int) api.Form { return num(strconv.Itoa(n)) }

func str(text string) api.Form { return node(api.FormString, text) }

func char(text string) api.Form { return node(api.FormChar, text) }

func ratio(text string) api.Form { return node(api.FormRatio, text) }

func single(bits string) api.Form { return node(api.FormSingle, bits) }

func double(bits string) api.Form { return node(api.FormDouble, bits) }

func sym(name string) api.Form { return forms.Symbol("COMMON-LISP-USER", name) }

func list(l ...api.Form) api.Form { return forms.List(l) }

// nums returns the integers of a text with spaces between them.
func nums(text string) []api.Form {
	var l []api.Form
	for part := range strings.FieldsSeq(text) {
		l = append(l, num(part))
	}
	return l
}

func many(n int, x api.Form) []api.Form {
	var l []api.Form
	for range n {
		l = append(l, x)
	}
	return l
}

// outcome is a control string with its arguments, and what it puts out, or its error.
type outcome struct {
	control string
	args    []api.Form
	want    string
	e       api.Errno
}

// put is an outcome without an error.
func put(control, want string, args ...api.Form) outcome {
	return outcome{control: control, args: args, want: want}
}

// fails is an outcome with an error.
func fails(control string, e api.Errno, args ...api.Form) outcome {
	return outcome{control: control, args: args, e: e}
}

// show returns the texts of forms.
func show(l []api.Form) string {
	var texts []string
	for _, f := range l {
		text := f.Text
		if len(f.Kids) > 0 {
			text = "(" + show(f.Kids) + ")"
		}
		texts = append(texts, text)
	}
	return strings.Join(texts, " ")
}

func check(t *testing.T, l ...outcome) {
	t.Helper()
	for _, o := range l {
		if s, e := Format(o.control, o.args); s != o.want || e != o.e {
			t.Errorf("Format(%.60q, %.80s) = %.80q, %v, expected %.80q, %v", o.control, show(o.args), s, e, o.want, o.e)
		}
	}
}

// output returns what a control string puts out.
func output(t *testing.T, control string, args ...api.Form) string {
	t.Helper()
	s, e := Format(control, args)
	if e != api.OK {
		t.Fatalf("Format(%q, %v): %v", control, args, e)
	}
	return s
}
