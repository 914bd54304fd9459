package pretty

import (
	"math/rand"
	"testing"

	"commonform/api"
)

// P1: no function panics, and with an error every other result is its zero value.
func TestAnyArguments(t *testing.T) {
	r := rand.New(rand.NewSource(5))
	texts := []string{"", "a", " ", "b\n", "é ", "\xff"}
	for range 20000 {
		var l []Op
		for range r.Intn(8) {
			op := Op{Kind: r.Intn(6), Text: texts[r.Intn(len(texts)-1)], N: r.Intn(4), M: r.Intn(3), Flag: r.Intn(2) == 0}
			if r.Intn(30) == 0 {
				op = Op{Kind: r.Intn(9) - 1, Text: texts[r.Intn(len(texts))], N: r.Intn(400) - 200, M: r.Intn(400) - 200}
			}
			l = append(l, op)
		}
		bad := Check(l)
		s, e := Flat(l)
		if e != bad || e != api.OK && s != "" {
			t.Fatalf("Flat(%v) = %q, %v; want %v", l, s, e, bad)
		}
		if s, e := Render(l, 1+r.Intn(200), r.Intn(201)); e != bad || e != api.OK && s != "" {
			t.Fatalf("Render(%v) = %q, %v; want %v", l, s, e, bad)
		}
	}
}
