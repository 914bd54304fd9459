package macro

import (
	"slices"

	"commonform/api"
	"commonform/forms"
	"commonform/lisp"
)

// blockNil returns a form that RETURN leaves.
func blockNil(f api.Form) api.Form { return lisp.Call("BLOCK", forms.Nil(), f) }

func (m *maker) do(l []api.Form) api.Form { return m.steps(l, "LET", "PSETQ") }

func (m *maker) doStar(l []api.Form) api.Form { return m.steps(l, "LET*", "SETQ") }

// steps expands DO and DO*, which bind and step variables together, or one behind the other.
func (m *maker) steps(l []api.Form, binder, setter string) api.Form {
	wantCount(l, 2, anyNumber)
	var bindings, steps []api.Form
	for _, f := range items(l[0]) {
		v, rest := binding(f, 3)
		if len(rest) == 0 {
			bindings = append(bindings, v)
			continue
		}
		bindings = append(bindings, lisp.List(v, rest[0]))
		if len(rest) > 1 {
			steps = append(steps, v, rest[1])
		}
	}
	end := items(l[1])
	wantCount(end, 1, anyNumber)
	declarations, body := divide(l[2:])
	tag := m.Fresh()
	test := lisp.Call("IF", end[0], leave(lisp.Call("PROGN", end[1:]...)))
	again := []api.Form{lisp.Call(setter, steps...), lisp.Call("GO", tag)}
	round := lisp.Body("TAGBODY", tag, []api.Form{test}, body, again)
	return blockNil(lisp.Body(binder, lisp.List(bindings...), declarations, []api.Form{round}))
}

func (m *maker) prog(l []api.Form) api.Form { return m.tagged(l, "LET") }

func (m *maker) progStar(l []api.Form) api.Form { return m.tagged(l, "LET*") }

func (m *maker) tagged(l []api.Form, binder string) api.Form {
	wantCount(l, 1, anyNumber)
	items(l[0])
	declarations, body := divide(l[1:])
	return blockNil(lisp.Body(binder, l[0], declarations, []api.Form{lisp.Call("TAGBODY", body...)}))
}

// counted is what DOLIST and DOTIMES say: a variable, a form, and a form for the result.
type counted struct {
	v, f, result       api.Form
	declarations, body []api.Form
}

func countedOf(l []api.Form) counted {
	wantCount(l, 1, anyNumber)
	parts := items(l[0])
	wantCount(parts, 2, 3)
	wantVariables(parts[:1])
	c := counted{v: parts[0], f: parts[1], result: otherwiseNil(parts, 2)}
	c.declarations, c.body = divide(l[1:])
	return c
}

// form returns the whole form: rest stands behind the rounds.
func (c counted) form(bindings []api.Form, tag, test api.Form, round, rest []api.Form) api.Form {
	again := lisp.Call("PROGN", append(slices.Clone(round), lisp.Call("GO", tag))...)
	rounds := lisp.Call("TAGBODY", tag, lisp.Call("IF", test, again))
	return blockNil(lisp.Body("LET", lisp.List(bindings...), c.declarations, []api.Form{rounds}, rest))
}

func (m *maker) dolist(l []api.Form) api.Form {
	c := countedOf(l)
	left, tag := m.Fresh(), m.Fresh()
	bindings := []api.Form{lisp.List(left, c.f), lisp.List(c.v, forms.Nil())}
	round := []api.Form{
		lisp.Call("SETQ", c.v, lisp.Call("CAR", left)),
		lisp.Call("TAGBODY", c.body...),
		lisp.Call("SETQ", left, lisp.Call("CDR", left)),
	}
	return c.form(bindings, tag, left, round, []api.Form{lisp.Call("SETQ", c.v, forms.Nil()), c.result})
}

func (m *maker) dotimes(l []api.Form) api.Form {
	c := countedOf(l)
	most, tag := m.Fresh(), m.Fresh()
	bindings := []api.Form{lisp.List(most, c.f), lisp.List(c.v, lisp.Small(0))}
	round := []api.Form{
		lisp.Call("TAGBODY", c.body...),
		lisp.Call("SETQ", c.v, lisp.Call("+", c.v, lisp.Small(1))),
	}
	return c.form(bindings, tag, lisp.Call("<", c.v, most), round, []api.Form{c.result})
}
