package reader

import (
	"math/rand"
	"testing"

	"commonform/api"
	"commonform/forms"
	"commonform/notation"
	"commonform/token"
)

// anyForm makes any tree, right or not.
func anyForm(r *rand.Rand, depth int) api.Form {
	texts := []string{"", "1", "A", "NIL", "0 0", "2 2", "\xff", "COMMA", "NOT", "-0", "10"}
	homes := []string{"", "", "KEYWORD", "COMMON-LISP", notation.Home, "\xff"}
	f := api.Form{Kind: r.Intn(17) - 1, Text: texts[r.Intn(len(texts))], Home: homes[r.Intn(len(homes))]}
	if r.Intn(2) == 0 {
		f.Kind = api.FormCons
	}
	if depth == 0 {
		return f
	}
	for range r.Intn(4) {
		f.Kids = append(f.Kids, anyForm(r, depth-1))
	}
	return f
}

// P1: no function panics, and with an error every other result is its zero value.
func TestAnyArguments(t *testing.T) {
	r := rand.New(rand.NewSource(5))
	for range 20000 {
		f := anyForm(r, r.Intn(5))
		if is, e := Feature(f, []string{"A", ""}); e != api.OK && is {
			t.Fatalf("Feature(%s) = %v, %v", show(f), is, e)
		}
		if x, e := Array(r.Intn(11)-1, f); e != api.OK && x.Kind != 0 || e == api.OK && forms.Check(f) == api.OK && forms.Check(x) != api.OK {
			t.Fatalf("Array(%s) = %s, %v", show(f), show(x), e)
		}
		if x, e := Backquote(f); e != api.OK && x.Kind != 0 || e == api.OK && forms.Check(x) != api.OK {
			t.Fatalf("Backquote(%s) = %s, %v", show(f), show(x), e)
		}
	}
	for range 20000 {
		o := usual()
		for range r.Intn(5) {
			o.Table, _ = token.Set(o.Table, rune(32+r.Intn(96)), r.Intn(7))
		}
		o.Table.Case, o.Base, o.Double = r.Intn(4), 2+r.Intn(35), r.Intn(2) == 0
		s := chanceText(r) + chanceText(r)
		at := r.Intn(len(s) + 2)
		if x, place, e := Read(o, s, at); e != api.OK && !isEmpty(x) || e == api.OK && place != 0 {
			t.Fatalf("Read(%q, %d) = %v, %d, %v", s, at, x, place, e)
		}
		if end, place, e := Blank(o, s, at); e != api.OK && end != 0 || e == api.OK && (place != 0 || end < at || end > len(s)) {
			t.Fatalf("Blank(%q, %d) = %d, %d, %v", s, at, end, place, e)
		}
		l, _, e := All(o, s)
		if e != api.OK && len(l) > 0 {
			t.Fatalf("All(%q) = %v, %v", s, l, e)
		}
		for _, x := range l {
			if e := forms.Check(x.Form); e != api.OK {
				t.Fatalf("All(%q) has the form %s: %v", s, show(x.Form), e)
			}
		}
	}
}
