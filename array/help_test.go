package array

import (
	"strconv"
	"strings"
	"testing"

	"commonform/api"
	"commonform/forms"
)

func node(kind int, text string, kids ...api.Form) api.Form {
	return api.Form{Kind: kind, Text: text, Kids: kids}
}

func num(n int) api.Form { return node(api.FormInt, strconv.Itoa(n)) }

func str(text string) api.Form { return node(api.FormString, text) }

func vec(kids ...api.Form) api.Form { return node(api.FormVector, "", kids...) }

func labelled() api.Form { return node(api.FormLabel, "1", str("x")) }

// nested returns a vector of a depth.
func nested(depth int) api.Form {
	f := vec()
	for range depth - 1 {
		f = vec(f)
	}
	return f
}

// own describes an array with elements of its own.
func own(dims ...int) Array { return Array{Dims: dims, Fill: -1, Target: -1} }

func adjustable(a Array) Array {
	a.Adjustable = true
	return a
}

func filled(a Array, fill int) Array {
	a.Fill = fill
	return a
}

func bitted(a Array) Array {
	a.Bits = true
	return a
}

func displaced(target, offset int, dims ...int) Array {
	return Array{Dims: dims, Fill: -1, Target: target, Offset: offset}
}

// room returns a room with arrays, whose elements are numbers from 0 on; those of bits are 0.
func room(t *testing.T, l ...Array) *Room {
	t.Helper()
	r := NewRoom()
	for _, a := range l {
		n, e := r.Make(a, num(0))
		if e != api.OK {
			t.Fatalf("Make(%v): %v", a, e)
		}
		if a.Target >= 0 || a.Bits {
			continue
		}
		for i := range total(a.Dims) {
			if e := r.Set(n, i, num(i)); e != api.OK {
				t.Fatalf("Set(%d, %d): %v", n, i, e)
			}
		}
	}
	return r
}

// show returns the texts of forms with spaces between them.
func show(l []api.Form) string {
	var texts []string
	for _, f := range l {
		text := f.Text
		if len(f.Kids) > 0 {
			text += "(" + show(f.Kids) + ")"
		}
		texts = append(texts, text)
	}
	return strings.Join(texts, " ")
}

// contents returns the contents of an array as texts.
func contents(t *testing.T, r *Room, a int) string {
	t.Helper()
	l, e := r.Contents(a)
	if e != api.OK {
		t.Fatalf("Contents(%d): %v", a, e)
	}
	return show(l)
}

func expect(t *testing.T, what string, e, want api.Errno) {
	t.Helper()
	if e != want {
		t.Errorf("%s: the error is %v, expected %v", what, e, want)
	}
}

func sameForm(t *testing.T, what string, f, want api.Form) {
	t.Helper()
	if !forms.Equal(f, want) {
		t.Errorf("%s: %v, expected %v", what, f, want)
	}
}
