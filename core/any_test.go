package core

import (
	"math/rand"
	"testing"

	"commonform/api"
)

// anyCore makes a tree with any fields.
func anyCore(r *rand.Rand, depth int) api.Core {
	c := api.Core{Op: r.Intn(27) - 1, N: r.Intn(4) - 1}
	for range r.Intn(3) {
		c.Vars = append(c.Vars, r.Intn(5)-1)
	}
	for range r.Intn(2) {
		c.Syms = append(c.Syms, anyForm(r, 1))
		c.Pars = append(c.Pars, api.Param{Kind: r.Intn(6), Var: r.Intn(4) - 1, Given: r.Intn(4) - 2, Key: anyForm(r, 0)})
	}
	if r.Intn(3) == 0 {
		c.Data = anyForm(r, 2)
	}
	for range r.Intn(4) {
		if depth > 0 {
			c.Kids = append(c.Kids, anyCore(r, depth-1))
		}
	}
	return c
}

// anyForm makes a tree of forms, most of which are not right.
func anyForm(r *rand.Rand, depth int) api.Form {
	words := []string{"", "A", "LET", "LAMBDA", "DECLARE", "NIL", "1", "&KEY", "\xff"}
	homes := []string{"", lisp, lisp, home, keyword}
	f := api.Form{Kind: r.Intn(16), Text: words[r.Intn(len(words))], Home: homes[r.Intn(len(homes))]}
	for range r.Intn(4) {
		if depth > 0 {
			f.Kids = append(f.Kids, anyForm(r, depth-1))
		}
	}
	return f
}

// changed replaces a part of a form by another one.
func changed(r *rand.Rand, f api.Form, depth int) api.Form {
	if len(f.Kids) == 0 || depth == 0 {
		return newMaker(r.Int63(), "C").form(2)
	}
	kids := append([]api.Form(nil), f.Kids...)
	switch i := r.Intn(len(kids)); r.Intn(4) {
	case 0:
		kids = append(kids[:i], kids[i+1:]...)
	case 1:
		kids = append(kids[:i], append([]api.Form{anyForm(r, 1)}, kids[i:]...)...)
	default:
		kids[i] = changed(r, kids[i], depth-1)
	}
	f.Kids = kids
	return f
}

// P1: no function panics or goes on for ever; with an error results are zero values; and what Convert returns is right.
func TestAnyArguments(t *testing.T) {
	r := rand.New(rand.NewSource(1))
	for range 20000 {
		c := anyCore(r, r.Intn(4))
		e := Check(c)
		s, e2 := Show(c)
		renamed, e3 := Renamed(c, r.Intn(20000)-10000)
		if e == api.OK != (e2 == api.OK) || e2 != api.OK && s != "" || e3 != api.OK && renamed.Op != 0 || e == api.OK != Same(c, c) {
			t.Fatalf("%v: Show %q, %v, Renamed %v", e, s, e2, e3)
		}
		Size(c)
		Free(c)
		Convert(anyForm(r, 3), []api.Form{anyForm(r, 1)})
	}
	for seed := range int64(6000) {
		c, e := Convert(changed(r, newMaker(seed, "V").form(4), 6), []api.Form{global("S")})
		if e == api.OK && Check(c) != api.OK {
			t.Fatalf("seed %d: a wrong tree", seed)
		}
		if e != api.OK && c.Op != 0 {
			t.Fatalf("seed %d: a tree with %v", seed, e)
		}
	}
}
