package place

import (
	"slices"

	"commonform/api"
	"commonform/forms"
	"commonform/lisp"
)

// macros returns the macros by their names.
func macros() map[string]func(*expander, []api.Form) api.Form {
	return map[string]func(*expander, []api.Form) api.Form{
		"SETF":    (*expander).setf,
		"PSETF":   (*expander).psetf,
		"INCF":    (*expander).incf,
		"DECF":    (*expander).decf,
		"PUSH":    (*expander).push,
		"PUSHNEW": (*expander).pushnew,
		"POP":     (*expander).pop,
		"ROTATEF": (*expander).rotatef,
		"SHIFTF":  (*expander).shiftf,
	}
}

// single is a place with one value: store is the variable of this value.
type single struct {
	Place
	store api.Form
}

// single expands a place that must have one value.
func (x *expander) single(f api.Form) single {
	p := x.place(f)
	want(len(p.Stores) == 1, ErrPlace)
	return single{Place: p, store: p.Stores[0]}
}

// singles expands places with one value, in order, and returns the bindings of them all, too.
func (x *expander) singles(l []api.Form) (all []single, bindings []api.Form) {
	for _, f := range l {
		p := x.single(f)
		all, bindings = append(all, p), append(bindings, p.bindings()...)
	}
	return all, bindings
}

// stores returns the binding of the new value.
func (p single) stores(value api.Form) api.Form { return lisp.List(p.store, value) }

// writes returns the forms that write places.
func writes(l []single) []api.Form {
	var all []api.Form
	for _, p := range l {
		all = append(all, p.Write)
	}
	return all
}

// letStar returns a LET* form.
func letStar(bindings []api.Form, body ...api.Form) api.Form {
	return lisp.Body("LET*", lisp.List(bindings...), body)
}

func (x *expander) setf(l []api.Form) api.Form {
	want(len(l)%2 == 0, api.ErrForm)
	var all []api.Form
	for pair := range slices.Chunk(l, 2) {
		all = append(all, x.assign(pair[0], pair[1]))
	}
	switch len(all) {
	case 0:
		return forms.Nil()
	case 1:
		return all[0]
	}
	return lisp.Call("PROGN", all...)
}

// assign returns the form that writes a value to a place.
func (x *expander) assign(f, value api.Form) api.Form {
	if f.Kind == api.FormSymbol {
		want(!Constant(f), ErrPlace)
		return lisp.Call("SETQ", f, value)
	}
	p := x.place(f)
	if len(p.Stores) == 1 {
		return letStar(append(p.bindings(), lisp.List(p.Stores[0], value)), p.Write)
	}
	return letStar(p.bindings(), lisp.Call("MULTIPLE-VALUE-BIND", lisp.List(p.Stores...), value, p.Write))
}

func (x *expander) psetf(l []api.Form) api.Form {
	want(len(l)%2 == 0, api.ErrForm)
	var all []single
	var bindings []api.Form
	for pair := range slices.Chunk(l, 2) {
		p := x.single(pair[0])
		all = append(all, p)
		bindings = append(append(bindings, p.bindings()...), p.stores(pair[1]))
	}
	return letStar(bindings, append(writes(all), forms.Nil())...)
}

func (x *expander) incf(l []api.Form) api.Form { return x.change("+", l) }

func (x *expander) decf(l []api.Form) api.Form { return x.change("-", l) }

// change returns the form that adds a number to a place, or takes it away.
func (x *expander) change(function string, l []api.Form) api.Form {
	wantCount(l, 1, 2)
	p := x.single(l[0])
	by := lisp.Small(1)
	if len(l) > 1 {
		by = l[1]
	}
	bindings := p.bindings()
	if !Constant(by) {
		s := x.Fresh()
		bindings = append(bindings, lisp.List(s, by))
		by = s
	}
	return letStar(append(bindings, p.stores(lisp.Call(function, p.Read, by))), p.Write)
}

func (x *expander) push(l []api.Form) api.Form {
	wantCount(l, 2, 2)
	s := x.Fresh()
	p := x.single(l[1])
	bindings := append([]api.Form{lisp.List(s, l[0])}, p.bindings()...)
	return letStar(append(bindings, p.stores(lisp.Call("CONS", s, p.Read))), p.Write)
}

func (x *expander) pushnew(l []api.Form) api.Form {
	wantCount(l, 2, 2)
	s := x.Fresh()
	p := x.single(l[1])
	r := x.Fresh()
	bindings := append([]api.Form{lisp.List(s, l[0])}, p.bindings()...)
	added := letStar([]api.Form{p.stores(lisp.Call("CONS", s, r))}, p.Write)
	return letStar(append(bindings, lisp.List(r, p.Read)), lisp.Call("IF", lisp.Call("MEMBER", s, r), r, added))
}

func (x *expander) pop(l []api.Form) api.Form {
	wantCount(l, 1, 1)
	p := x.single(l[0])
	r := x.Fresh()
	bindings := append(p.bindings(), lisp.List(r, p.Read), p.stores(lisp.Call("CDR", r)))
	return letStar(bindings, p.Write, lisp.Call("CAR", r))
}

func (x *expander) rotatef(l []api.Form) api.Form {
	if len(l) == 0 {
		return forms.Nil()
	}
	all, bindings := x.singles(l)
	for i, p := range all {
		next := all[(i+1)%len(all)]
		bindings = append(bindings, p.stores(next.Read))
	}
	return letStar(bindings, append(writes(all), forms.Nil())...)
}

func (x *expander) shiftf(l []api.Form) api.Form {
	want(len(l) >= 2, api.ErrForm)
	last := len(l) - 1
	all, bindings := x.singles(l[:last])
	r := x.Fresh()
	bindings = append(bindings, lisp.List(r, all[0].Read))
	for i, p := range all {
		value := l[last]
		if i+1 < len(all) {
			value = all[i+1].Read
		}
		bindings = append(bindings, p.stores(value))
	}
	return letStar(bindings, append(writes(all), r)...)
}
