package condition

import (
	"commonform/api"
	"commonform/forms"
	"commonform/lisp"
)

// The variables that have the handlers and the restarts.
const (
	handlers = "%HANDLERS%"
	restarts = "%RESTARTS%"
)

// macros returns the macros by their names.
func macros() map[string]func(*expander, []api.Form) api.Form {
	return map[string]func(*expander, []api.Form) api.Form{
		"HANDLER-BIND":        (*expander).handlerBind,
		"RESTART-BIND":        (*expander).restartBind,
		handlerCase:           (*expander).handlerCase,
		restartCase:           (*expander).restartCase,
		"IGNORE-ERRORS":       (*expander).ignoreErrors,
		"WITH-SIMPLE-RESTART": (*expander).withSimpleRestart,
		"DEFINE-CONDITION":    (*expander).defineCondition,
		"ASSERT":              (*expander).assert,
		"CHECK-TYPE":          (*expander).checkType,
	}
}

func quoted(name string) api.Form { return lisp.Quote(lisp.Symbol(name)) }

// value returns the form of the value of a dynamic variable, and bound one that evaluates others while it has another value.
func value(name string) api.Form { return lisp.Call("SYMBOL-VALUE", quoted(name)) }

func bound(name string, value api.Form, body []api.Form) api.Form {
	symbols := lisp.Quote(lisp.List(lisp.Symbol(name)))
	return lisp.Body("PROGV", symbols, []api.Form{lisp.Call("LIST", value)}, body)
}

// pairs returns a form of the list of conses of names and functions that a list of bindings says.
func pairs(f api.Form, onlySymbols bool) api.Form {
	var all []api.Form
	for _, b := range items(f) {
		parts := items(b)
		want(len(parts) == 2 && (!onlySymbols || parts[0].Kind == api.FormSymbol))
		all = append(all, lisp.Call("CONS", lisp.Quote(parts[0]), parts[1]))
	}
	return lisp.Call("LIST", all...)
}

func (x *expander) handlerBind(l []api.Form) api.Form {
	wantCount(l, 1)
	return bound(handlers, lisp.Call("CONS", pairs(l[0], false), value(handlers)), l[1:])
}

func (x *expander) restartBind(l []api.Form) api.Form {
	wantCount(l, 1)
	return bound(restarts, lisp.Call("APPEND", pairs(l[0], true), value(restarts)), l[1:])
}

// exits has what the expansion of clauses takes: a block, a variable for what was handed over, a tag for each clause, and a parameter.
type exits struct {
	block, v, parameter api.Form
	tags                []api.Form
}

func (x *expander) exits(l []Clause) exits {
	made := exits{block: x.Fresh(), v: x.Fresh()}
	for range l {
		made.tags = append(made.tags, x.Fresh())
	}
	made.parameter = x.Fresh()
	return made
}

// function returns the function of a clause with a tag: it hands over what it was called with, and goes there.
func (m exits) function(tag api.Form, parameters ...api.Form) api.Form {
	return lisp.Call("LAMBDA", lisp.List(parameters...), lisp.Call("SETQ", m.v, m.parameter), lisp.Call("GO", tag))
}

// form returns the form that evaluates another one with bindings for the clauses, and the result of the clause whose function was called.
func (m exits) form(binder string, bindings []api.Form, f api.Form, results []api.Form) api.Form {
	leave := func(f api.Form) api.Form { return lisp.Call("RETURN-FROM", m.block, f) }
	parts := []api.Form{leave(lisp.Call(binder, lisp.List(bindings...), f))}
	for i, tag := range m.tags {
		parts = append(parts, tag, leave(results[i]))
	}
	variable := lisp.List(lisp.List(m.v, forms.Nil()))
	return lisp.Call("BLOCK", m.block, lisp.Call("LET*", variable, lisp.Call("TAGBODY", parts...)))
}

func (x *expander) handlerCase(l []api.Form) api.Form {
	wantCount(l, 1)
	all := clauses(handlerCase, l[1:])
	m := x.exits(all)
	var bindings, results []api.Form
	for i, c := range all {
		bindings = append(bindings, lisp.List(c.Name, m.function(m.tags[i], m.parameter)))
		result := lisp.Call("PROGN", c.Body...)
		if params := items(c.Params); len(params) > 0 {
			result = lisp.Body("LET*", lisp.List(lisp.List(params[0], m.v)), c.Body)
		}
		results = append(results, result)
	}
	return m.form("HANDLER-BIND", bindings, l[0], results)
}

func (x *expander) restartCase(l []api.Form) api.Form {
	wantCount(l, 1)
	all := clauses(restartCase, l[1:])
	m := x.exits(all)
	var bindings, results []api.Form
	for i, c := range all {
		function := m.function(m.tags[i], lisp.Symbol("&REST"), m.parameter)
		bindings = append(bindings, lisp.List(c.Name, function))
		results = append(results, lisp.Call("APPLY", lisp.Body("LAMBDA", c.Params, c.Body), m.v))
	}
	return m.form("RESTART-BIND", bindings, l[0], results)
}

func (x *expander) ignoreErrors(l []api.Form) api.Form {
	g := x.Fresh()
	clause := lisp.Call("ERROR", lisp.List(g), lisp.Call("VALUES", forms.Nil(), g))
	return lisp.Call(handlerCase, lisp.Call("PROGN", l...), clause)
}

func (x *expander) withSimpleRestart(l []api.Form) api.Form {
	wantCount(l, 1)
	parts := items(l[0])
	want(len(parts) > 0 && parts[0].Kind == api.FormSymbol)
	clause := lisp.List(parts[0], forms.Nil(), lisp.Call("VALUES", forms.Nil(), lisp.Truth()))
	return lisp.Call(restartCase, lisp.Call("PROGN", l[1:]...), clause)
}

func (x *expander) defineCondition(l []api.Form) api.Form {
	wantCount(l, 3)
	want(l[0].Kind == api.FormSymbol)
	supers := l[1]
	if len(items(supers)) == 0 {
		supers = lisp.List(lisp.Symbol("CONDITION"))
	}
	items(l[2])
	return lisp.Call("DEFCLASS", l[0], supers, l[2])
}

func (x *expander) assert(l []api.Form) api.Form {
	want(len(l) == 1)
	return lisp.Call("IF", l[0], forms.Nil(), lisp.Call("ERROR", quoted("SIMPLE-ERROR")))
}

func (x *expander) checkType(l []api.Form) api.Form {
	want(len(l) == 2)
	test := lisp.Call("TYPEP", l[0], lisp.Quote(l[1]))
	return lisp.Call("IF", test, forms.Nil(), lisp.Call("ERROR", quoted("TYPE-ERROR")))
}
