package place_test

import (
	"math/rand"
	"strconv"
	"testing"

	"commonform/api"
	"commonform/forms"
	"commonform/lisp"
	"commonform/place"
)

// chooser makes random forms whose subforms are calls of MARK with numbers that ascend in the order in which they stand.
type chooser struct {
	*rand.Rand
	marks int
}

func (r *chooser) mark() api.Form {
	r.marks++
	return lisp.Call("MARK", lisp.Small(r.marks))
}

func (r *chooser) subform() api.Form {
	switch r.Intn(5) {
	case 0:
		return lisp.Small(0)
	case 1:
		return lisp.Quote(symbol("Q"))
	}
	return r.mark()
}

// single returns a place with one value.
func (r *chooser) single() api.Form {
	switch r.Intn(8) {
	case 0:
		return symbol("X")
	case 1:
		return lisp.Call("CAR", r.subform())
	case 2:
		first := r.subform()
		return lisp.Call("AREF", first, r.subform())
	case 3:
		return lisp.Call("CADR", r.mark())
	case 4:
		first := r.subform()
		return lisp.Call("NTH", first, r.mark())
	case 5:
		return lisp.Call("THE", symbol("FIXNUM"), r.single())
	case 6:
		return lisp.Call("VALUES", r.single())
	}
	first := r.subform()
	return lisp.Call("OWN", first, r.subform())
}

func (r *chooser) several() api.Form {
	var l []api.Form
	for range r.Intn(4) {
		l = append(l, r.single())
	}
	return lisp.Call("VALUES", l...)
}

func (r *chooser) form() api.Form {
	r.marks = 0
	switch r.Intn(10) {
	case 0:
		p := r.several()
		return lisp.Call("SETF", p, r.subform())
	case 1, 2:
		var l []api.Form
		for range r.Intn(4) {
			l = append(l, r.single())
			l = append(l, r.subform())
		}
		return lisp.Call([]string{"SETF", "PSETF"}[r.Intn(2)], l...)
	case 3, 4:
		p := r.single()
		return lisp.Call([]string{"INCF", "DECF"}[r.Intn(2)], p, r.subform())
	case 5, 6:
		v := r.subform()
		return lisp.Call([]string{"PUSH", "PUSHNEW"}[r.Intn(2)], v, r.single())
	case 7:
		return lisp.Call("POP", r.single())
	}
	var l []api.Form
	for range 1 + r.Intn(3) {
		l = append(l, r.single())
	}
	if r.Intn(2) == 0 {
		return lisp.Call("ROTATEF", l...)
	}
	return lisp.Call("SHIFTF", append(l, r.subform())...)
}

// marks returns the numbers of all calls of MARK, in the order of the walk.
func marks(f api.Form) []int {
	if name, args, ok := lisp.Arguments(f); ok && name == "MARK" {
		n, _ := strconv.Atoi(args[0].Text)
		return []int{n}
	}
	var all []int
	for _, kid := range f.Kids {
		all = append(all, marks(kid)...)
	}
	return all
}

// shifted returns a form with greater numbers of fresh symbols.
func shifted(f api.Form, by int) api.Form {
	if f.Kind == api.FormSymbol && f.Home == "%" {
		n, _ := strconv.Atoi(f.Text)
		return place.Fresh(n + by)
	}
	var kids []api.Form
	for _, kid := range f.Kids {
		kids = append(kids, shifted(kid, by))
	}
	f.Kids = kids
	return f
}

// bound returns how often each fresh symbol is bound by the LET* forms and MULTIPLE-VALUE-BIND forms in an expansion.
func bound(f api.Form, times map[string]int) {
	if name, args, ok := lisp.Arguments(f); ok && (name == "LET*" || name == "MULTIPLE-VALUE-BIND") {
		l, _ := lisp.Elements(args[0])
		for _, b := range l {
			if b.Kind == api.FormCons {
				b = b.Kids[0]
			}
			times[b.Text]++
		}
	}
	for _, kid := range f.Kids {
		bound(kid, times)
	}
}

// P23.2, P23.3: each subform stands once, in order; new symbols are different, from fresh on; the numbers alone depend on fresh.
func TestOnceAndNames(t *testing.T) {
	r := &chooser{Rand: rand.New(rand.NewSource(23))}
	for range 3000 {
		f := r.form()
		made, next, e := place.Macro(place.Standard(), f, 5)
		if e != api.OK {
			t.Fatalf("%s: %v", show(f), e)
		}
		l := marks(made)
		for i, n := range l {
			if n != i+1 || len(l) != r.marks {
				t.Fatalf("%s: %s has %v", show(f), show(made), l)
			}
		}
		times := map[string]int{}
		bound(made, times)
		for name, n := range times {
			if k, _ := strconv.Atoi(name); n != 1 || k < 5 || k >= next {
				t.Fatalf("%s: %s binds %s", show(f), show(made), name)
			}
		}
		by := r.Intn(1000)
		other, n, e := place.Macro(place.Standard(), f, 5+by)
		if e != api.OK || n != next+by || !forms.Equal(other, shifted(made, by)) {
			t.Fatalf("%s: %s", show(f), show(other))
		}
	}
}

// P23.4: as many Temps as Values, none of which is constant; VALUES has the Stores of all its places.
func TestSizes(t *testing.T) {
	r := &chooser{Rand: rand.New(rand.NewSource(234))}
	for range 1000 {
		f, stores := r.single(), 1
		if r.Intn(2) == 0 {
			f = r.several()
			stores = len(f.Kids) - 2
		}
		p, _, e := place.Expand(place.Standard(), f, 0)
		if e != api.OK || len(p.Temps) != len(p.Values) || len(p.Stores) != stores {
			t.Fatalf("%s: %v, %v", show(f), p, e)
		}
		for _, v := range p.Values {
			if place.Constant(v) {
				t.Fatalf("%s: %s", show(f), show(v))
			}
		}
	}
}

// P23.1: nothing panics, whatever the arguments are, and a right result is a right form.
func TestAnyForm(t *testing.T) {
	r := rand.New(rand.NewSource(231))
	names := []string{"SETF", "PSETF", "POP", "ROTATEF", "SHIFTF", "PUSH", "DEFSETF", "CAR", "THE", "VALUES", "NTH", "QUOTE", "X", "NIL"}
	var anything func(depth int) api.Form
	anything = func(depth int) api.Form {
		if depth == 0 || r.Intn(3) == 0 {
			return []api.Form{symbol(names[r.Intn(len(names))]), lisp.Small(r.Intn(3)), {}, {Kind: r.Intn(16), Text: "1"}}[r.Intn(4)]
		}
		f := api.Form{Kind: api.FormCons}
		for range r.Intn(5) {
			f.Kids = append(f.Kids, anything(depth-1))
		}
		if r.Intn(4) > 0 {
			f.Kids = append([]api.Form{symbol(names[r.Intn(len(names))])}, append(f.Kids, forms.Nil())...)
		}
		return f
	}
	for range 20000 {
		f := anything(3)
		fresh := r.Intn(5) - 1
		made, next, e := place.Macro(place.Standard(), f, fresh)
		if e == api.OK && (forms.Check(made) != api.OK || next < fresh) || e != api.OK && !isZero(made, next) {
			t.Fatal(f, made, e)
		}
		if p, next, e := place.Expand(place.Standard(), f, fresh); e != api.OK && !isZeroPlace(p, next) {
			t.Fatal(f, p, e)
		}
		place.Define(nil, f)
		place.Constant(f)
	}
}
