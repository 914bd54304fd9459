package place

import (
	"slices"

	"commonform/api"
	"commonform/forms"
	"commonform/lisp"
)

// place returns the expansion of a place: of the first sort that fits.
func (x *expander) place(f api.Form) Place {
	sorts := [...]func() (Place, bool){
		func() (Place, bool) { return x.variable(f) },
		func() (Place, bool) { return x.written(f) },
		func() (Place, bool) { return x.short(f) },
		func() (Place, bool) { return x.typed(f) },
		func() (Place, bool) { return x.several(f) },
		func() (Place, bool) { return x.called(f) },
	}
	for _, expand := range sorts {
		if p, ok := expand(); ok {
			return p
		}
	}
	panic(failure{code: ErrPlace})
}

func (x *expander) variable(f api.Form) (Place, bool) {
	if !isName(f) {
		return Place{}, false
	}
	g := x.Fresh()
	return Place{Stores: []api.Form{g}, Write: lisp.Call("SETQ", f, g), Read: f}, true
}

// writer returns the last writer of a reader.
func (x *expander) writer(reader api.Form) (api.Form, bool) {
	for _, w := range slices.Backward(x.writers) {
		if forms.Equal(w.Reader, reader) {
			return w.Writer, true
		}
	}
	return api.Form{}, false
}

// written expands (r a ..) with a writer.
func (x *expander) written(f api.Form) (Place, bool) {
	l, ok := lisp.Elements(f)
	if !ok || len(l) == 0 {
		return Place{}, false
	}
	w, there := x.writer(l[0])
	if !there {
		return Place{}, false
	}
	return x.stored(l[0], l[1:], func(args []api.Form, g api.Form) api.Form {
		return lisp.List(append(append([]api.Form{w}, args...), g)...)
	}), true
}

// stored returns the expansion of a call, with the call that writes it.
func (x *expander) stored(reader api.Form, args []api.Form, write func(args []api.Form, g api.Form) api.Form) Place {
	var p Place
	var known []api.Form // constants, and variables for all other arguments
	for _, a := range args {
		if !Constant(a) {
			t := x.Fresh()
			p.Temps, p.Values = append(p.Temps, t), append(p.Values, a)
			a = t
		}
		known = append(known, a)
	}
	g := x.Fresh()
	p.Stores = []api.Form{g}
	p.Write = lisp.Call("PROGN", write(known, g), g)
	p.Read = lisp.List(append([]api.Form{reader}, known...)...)
	return p
}

// shapes say of names with a meaning of their own how many forms stand behind them in a place.
var shapes = [...]struct {
	name  string
	count int // -1: any number
}{
	{"NTH", 2}, {"SECOND", 1}, {"THIRD", 1}, {"CAAR", 1}, {"CADR", 1}, {"CDAR", 1}, {"CDDR", 1}, {"THE", 2}, {"VALUES", -1},
}

// named returns the name and the arguments of a list that begins with one of the names with a meaning of their own; ok tells whether it has as many as it should.
func named(f api.Form) (name string, args []api.Form, ok bool) {
	name, args, ok = lisp.Arguments(f)
	for _, s := range shapes {
		if ok && s.name == name {
			return name, args, s.count < 0 || s.count == len(args)
		}
	}
	return "", nil, false
}

// short expands a place that stands for another one.
func (x *expander) short(f api.Form) (Place, bool) {
	name, args, ok := named(f)
	if !ok {
		return Place{}, false
	}
	inner, outer := "", ""
	switch name {
	case "NTH":
		return x.standing("CAR", lisp.Call("NTHCDR", args...)), true
	case "THIRD":
		return x.standing("CAR", lisp.Call("CDR", lisp.Call("CDR", args...))), true
	case "SECOND", "CADR":
		outer, inner = "CAR", "CDR"
	case "CAAR":
		outer, inner = "CAR", "CAR"
	case "CDAR":
		outer, inner = "CDR", "CAR"
	case "CDDR":
		outer, inner = "CDR", "CDR"
	default:
		return Place{}, false
	}
	return x.standing(outer, lisp.Call(inner, args...)), true
}

// standing expands a place that another one stands for; nothing but a writer makes it one.
func (x *expander) standing(reader string, arg api.Form) Place {
	p, ok := x.written(lisp.Call(reader, arg))
	want(ok, ErrPlace)
	return p
}

func (x *expander) typed(f api.Form) (Place, bool) {
	name, args, ok := named(f)
	if !ok || name != "THE" {
		return Place{}, false
	}
	p := x.place(args[1])
	p.Read = lisp.Call("THE", args[0], p.Read)
	return p, true
}

func (x *expander) several(f api.Form) (Place, bool) {
	name, args, ok := named(f)
	if !ok || name != "VALUES" {
		return Place{}, false
	}
	all := x.places(args)
	var p Place
	var writes, reads []api.Form
	for _, inner := range all {
		p.Temps = append(p.Temps, inner.Temps...)
		p.Values = append(p.Values, inner.Values...)
		p.Stores = append(p.Stores, inner.Stores...)
		writes, reads = append(writes, inner.Write), append(reads, inner.Read)
	}
	p.Write, p.Read = lisp.Call("VALUES", writes...), lisp.Call("VALUES", reads...)
	return p, true
}

// places expands places, in order.
func (x *expander) places(l []api.Form) []Place {
	var all []Place
	for _, f := range l {
		all = append(all, x.place(f))
	}
	return all
}

// called expands a call of a function that another one of the name (SETF f) writes.
func (x *expander) called(f api.Form) (Place, bool) {
	l, ok := lisp.Elements(f)
	if !ok || len(l) == 0 || !isName(l[0]) || isShaped(l[0]) {
		return Place{}, false
	}
	setter := forms.Symbol(l[0].Home, "(SETF "+l[0].Text+")")
	return x.stored(l[0], l[1:], func(args []api.Form, g api.Form) api.Form {
		return lisp.List(append([]api.Form{setter, g}, args...)...)
	}), true
}

// isShaped reports whether a symbol is one of the names with a meaning of their own.
func isShaped(f api.Form) bool {
	for _, s := range shapes {
		if lisp.Is(f, s.name) {
			return true
		}
	}
	return false
}
