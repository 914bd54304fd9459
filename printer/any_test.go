package printer

import (
	"math/rand"
	"testing"

	"commonform/api"
	"commonform/forms"
	"commonform/token"
)

// anyForm makes any tree, right or not.
func anyForm(r *rand.Rand, depth int) api.Form {
	texts := []string{"", "1", "A", "NIL", "0 0", "2 2", "\xff", "-0", "1/2", "10"}
	homes := []string{"", "", "KEYWORD", "COMMON-LISP", "\xff"}
	f := api.Form{Kind: r.Intn(17) - 1, Text: texts[r.Intn(len(texts))], Home: homes[r.Intn(len(homes))]}
	for range r.Intn(4) * min(depth, 1) {
		f.Kids = append(f.Kids, anyForm(r, depth-1))
	}
	return f
}

// P1: no function panics, and with an error every other result is its zero value.
func TestAnyArguments(t *testing.T) {
	r := rand.New(rand.NewSource(5))
	for range 20000 {
		f := anyForm(r, r.Intn(4))
		o := options(t, r)
		o.Readable, o.Circle, o.Escape, o.Array = r.Intn(2) == 0, r.Intn(2) == 0, r.Intn(2) == 0, r.Intn(2) == 0
		for range r.Intn(5) {
			o.Table, _ = token.Set(o.Table, rune(32+r.Intn(96)), r.Intn(7))
		}
		s, e := Print(o, f)
		if bad := forms.Check(f); e != api.OK && s != "" || bad != api.OK && e != bad {
			t.Fatalf("Print(%v) = %q, %v; the form has the error %v", f, s, e, bad)
		}
		if s, e := Symbol(o, f); e != api.OK && s != "" || f.Kind != api.FormSymbol && e != api.ErrType {
			t.Fatalf("Symbol(%v) = %q, %v", f, s, e)
		}
		if s, e := Lines(o, []api.Form{f, f}); e != api.OK && s != "" {
			t.Fatalf("Lines(%v) = %q, %v", f, s, e)
		}
	}
}
