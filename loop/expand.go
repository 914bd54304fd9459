package loop

import (
	"commonform/api"
	"commonform/forms"
	"commonform/lisp"
	"commonform/place"
	"commonform/tree"
)

// Expand returns the form of clauses, and the number of the next fresh symbol.
func Expand(l []Clause, fresh int) (api.Form, int, api.Errno) {
	if e := Check(l); e != api.OK {
		return api.Form{}, 0, e
	}
	if !lisp.IsFirst(fresh) {
		return api.Form{}, 0, api.ErrArg
	}
	x := maker{Counter: lisp.Counter{Next: fresh}, name: forms.Nil(), result: forms.Nil()}
	return x.finished(x.form(l))
}

// maker makes a form of clauses, which put parts into it.
type maker struct {
	lisp.Counter
	name, hidden, result       api.Form
	begin, end                 api.Form // tags
	bindings, ahead, body, out []api.Form
}

// finished returns what was made, if it is a right form.
func (x *maker) finished(f api.Form) (api.Form, int, api.Errno) {
	if forms.Check(f) != api.OK {
		return api.Form{}, 0, api.ErrSize
	}
	return tree.Copy(f), x.Next, api.OK
}

// simple returns the form of a loop without clauses.
func (x *maker) simple(l []api.Form) api.Form {
	t := x.Fresh()
	return lisp.Call("BLOCK", forms.Nil(), lisp.Body("TAGBODY", t, l, []api.Form{lisp.Call("GO", t)}))
}

func (x *maker) form(l []Clause) api.Form {
	x.begin, x.end = x.Fresh(), x.Fresh()
	if len(l) > 0 && l[0].Kind == Named {
		x.name = l[0].Var
	}
	x.results(l)
	for _, c := range l {
		x.clause(c)
	}
	again := []api.Form{lisp.Call("GO", x.begin), x.end}
	body := lisp.Call("TAGBODY", join(x.ahead, []api.Form{x.begin}, x.body, again, x.out)...)
	return lisp.Call("BLOCK", x.name, lisp.Call("LET*", lisp.List(x.bindings...), body, x.result))
}

func join(lists ...[]api.Form) []api.Form {
	var all []api.Form
	for _, l := range lists {
		all = append(all, l...)
	}
	return all
}

// results binds the variables in which clauses gather something, the hidden one first, and finds the form of the result.
func (x *maker) results(l []Clause) {
	start := func(c Clause) api.Form {
		if group(c.Kind) == Sum {
			return lisp.Small(0)
		}
		return forms.Nil()
	}
	for c := range walk(l) {
		if c.Kind == Always || c.Kind == Never {
			x.result = lisp.Truth()
		}
		if isGathering(c.Kind) && forms.IsNil(c.Var) {
			x.hidden = x.Fresh()
			x.bind(x.hidden, start(c))
			x.result = x.hidden
			break
		}
	}
	met := map[[2]string]bool{}
	for c := range walk(l) {
		name := [2]string{c.Var.Home, c.Var.Text}
		if isGathering(c.Kind) && !forms.IsNil(c.Var) && !met[name] {
			met[name] = true
			x.bind(c.Var, start(c))
		}
	}
}

func (x *maker) bind(v, value api.Form) { x.bindings = append(x.bindings, lisp.List(v, value)) }

// bound binds a new symbol.
func (x *maker) bound(value api.Form) api.Form {
	g := x.Fresh()
	x.bind(g, value)
	return g
}

func (x *maker) add(l ...api.Form) { x.body = append(x.body, l...) }

func set(v, value api.Form) api.Form { return lisp.Call("SETQ", v, value) }

func (x *maker) leave() api.Form { return lisp.Call("GO", x.end) }

func (x *maker) returned(f api.Form) api.Form { return lisp.Call("RETURN-FROM", x.name, f) }

// whether goes on with a form if a test is true, and unless with one if it is not.
func whether(test, then api.Form) api.Form { return lisp.Call("IF", test, then) }

func unless(test, then api.Form) api.Form { return lisp.Call("IF", test, forms.Nil(), then) }

// clause puts the parts of a clause of the first level where they belong.
func (x *maker) clause(c Clause) {
	switch c.Kind {
	case Named:
	case With:
		x.bind(c.Var, c.Forms[0])
	case Initially:
		x.ahead = append(x.ahead, c.Forms...)
	case Finally:
		x.out = append(x.out, c.Forms...)
	case In, On:
		x.tails(c)
	case Across:
		x.across(c)
	case Equals:
		x.equals(c)
	case Arithmetic:
		x.numbers(c)
	case Repeat:
		g := x.bound(c.Forms[0])
		x.add(unless(lisp.Call("<", lisp.Small(0), g), x.leave()), set(g, lisp.Call("-", g, lisp.Small(1))))
	case While:
		x.add(unless(c.Forms[0], x.leave()))
	case Until:
		x.add(whether(c.Forms[0], x.leave()))
	case Always:
		x.add(unless(c.Forms[0], x.returned(forms.Nil())))
	case Never:
		x.add(whether(c.Forms[0], x.returned(forms.Nil())))
	case Thereis:
		g := x.Fresh()
		x.add(lisp.Call("LET*", lisp.List(lisp.List(g, c.Forms[0])), whether(g, x.returned(g))))
	default:
		x.add(x.action(c))
	}
}

// tails goes through a list, by its elements or its conses.
func (x *maker) tails(c Clause) {
	g := x.bound(c.Forms[0])
	next, found := lisp.Call("CDR", g), g
	if len(c.Forms) > 1 {
		next = lisp.Call("FUNCALL", x.bound(c.Forms[1]), g)
	}
	if c.Kind == In {
		found = lisp.Call("CAR", g)
	}
	x.bind(c.Var, forms.Nil())
	x.add(whether(lisp.Call("ATOM", g), x.leave()), set(c.Var, found), set(g, next))
}

func (x *maker) across(c Clause) {
	g := x.bound(c.Forms[0])
	k := x.bound(lisp.Small(0))
	m := x.bound(lisp.Call("LENGTH", g))
	x.bind(c.Var, forms.Nil())
	x.add(unless(lisp.Call("<", k, m), x.leave()), set(c.Var, lisp.Call("AREF", g, k)), set(k, lisp.Call("+", k, lisp.Small(1))))
}

func (x *maker) equals(c Clause) {
	if len(c.Forms) == 1 {
		x.bind(c.Var, forms.Nil())
		x.add(set(c.Var, c.Forms[0]))
		return
	}
	g := x.bound(lisp.Truth())
	x.bind(c.Var, forms.Nil())
	x.add(set(c.Var, lisp.Call("IF", g, c.Forms[0], c.Forms[1])), set(g, forms.Nil()))
}

func (x *maker) numbers(c Clause) {
	compare, change := ">", "+"
	switch c.Forms[how].Text {
	case "1":
		compare = ">="
	case "2":
		compare, change = "<", "-"
	case "3":
		compare, change = "<=", "-"
	}
	g := x.bound(c.Forms[first])
	if !forms.IsNil(c.Forms[limit]) {
		m := x.bound(c.Forms[limit])
		x.add(whether(lisp.Call(compare, g, m), x.leave()))
	}
	k := c.Forms[step]
	if !place.Constant(k) {
		k = x.bound(k)
	}
	x.bind(c.Var, forms.Nil())
	x.add(set(c.Var, g), set(g, lisp.Call(change, g, k)))
}

// action returns what a selectable clause does.
func (x *maker) action(c Clause) api.Form {
	v := c.Var
	if forms.IsNil(v) {
		v = x.hidden
	}
	switch c.Kind {
	case Do:
		return lisp.Call("PROGN", c.Forms...)
	case Return:
		return x.returned(c.Forms[0])
	case Collect:
		return set(v, lisp.Call("APPEND", v, lisp.Call("LIST", c.Forms[0])))
	case Append:
		return set(v, lisp.Call("APPEND", v, c.Forms[0]))
	case Sum:
		return set(v, lisp.Call("+", v, c.Forms[0]))
	case Count:
		return whether(c.Forms[0], set(v, lisp.Call("+", v, lisp.Small(1))))
	case Maximize:
		return x.extreme("MAX", v, c.Forms[0])
	case Minimize:
		return x.extreme("MIN", v, c.Forms[0])
	}
	then, others := x.actions(c.Then), x.actions(c.Else)
	if c.Kind == Unless {
		then, others = others, then
	}
	return lisp.Call("IF", c.Forms[0], then, others)
}

// actions returns the form of what some clauses do.
func (x *maker) actions(l []Clause) api.Form {
	var all []api.Form
	for _, c := range l {
		all = append(all, x.action(c))
	}
	return lisp.Call("PROGN", all...)
}

// extreme keeps the greatest, or the least, of some values.
func (x *maker) extreme(function string, v, value api.Form) api.Form {
	g := x.Fresh()
	kept := lisp.Call("IF", v, lisp.Call(function, v, g), g)
	return lisp.Call("LET*", lisp.List(lisp.List(g, value)), set(v, kept))
}
