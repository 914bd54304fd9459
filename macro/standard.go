package macro

import (
	"slices"

	"commonform/api"
	"commonform/forms"
	"commonform/lambda"
	"commonform/lisp"
	"commonform/reader"
)

// The macros that mean something at the top alone.
const (
	defmacro = "DEFMACRO"
	declaim  = "DECLAIM"
)

// maker expands calls of standard macros: it takes fresh variables.
type maker struct{ lisp.Counter }

// standard returns what a call with some arguments is expanded to.
type standard func(m *maker, l []api.Form) api.Form

// standardMacros returns the standard macros of COMMON-LISP by their names.
func standardMacros() map[string]standard {
	return map[string]standard{
		"AND":                 (*maker).and,
		"CASE":                (*maker).keyCase,
		"COND":                (*maker).cond,
		declaim:               (*maker).declaim,
		"DEFCLASS":            (*maker).defclass,
		"DEFCONSTANT":         (*maker).defparameter,
		"DEFGENERIC":          (*maker).defgeneric,
		defmacro:              (*maker).defmacro,
		"DEFMETHOD":           (*maker).defmethod,
		"DEFPARAMETER":        (*maker).defparameter,
		"DEFUN":               (*maker).defun,
		"DEFVAR":              (*maker).defvar,
		"DESTRUCTURING-BIND":  (*maker).destructuringBind,
		"DO":                  (*maker).do,
		"DO*":                 (*maker).doStar,
		"DOLIST":              (*maker).dolist,
		"DOTIMES":             (*maker).dotimes,
		"LAMBDA":              (*maker).lambda,
		"MULTIPLE-VALUE-BIND": (*maker).valuesBind,
		"MULTIPLE-VALUE-LIST": (*maker).valuesList,
		"MULTIPLE-VALUE-SETQ": (*maker).valuesSetq,
		"NTH-VALUE":           (*maker).nthValue,
		"OR":                  (*maker).or,
		"PROG":                (*maker).prog,
		"PROG*":               (*maker).progStar,
		"PROG1":               (*maker).prog1,
		"PROG2":               (*maker).prog2,
		"PSETQ":               (*maker).psetq,
		"RETURN":              (*maker).returnNil,
		"TYPECASE":            (*maker).typeCase,
		"UNLESS":              (*maker).unless,
		"WHEN":                (*maker).when,
		"WITH-SLOTS":          (*maker).withSlots,
	}
}

// backquote expands (BACKQUOTE x) of the package of the reader.
func (m *maker) backquote(l []api.Form) api.Form {
	wantCount(l, 1, 1)
	made, e := reader.Backquote(l[0])
	must(e)
	return made
}

func (m *maker) lambda(l []api.Form) api.Form {
	wantCount(l, 1, anyNumber)
	return function(l[0], l[1:]...)
}

func (m *maker) when(l []api.Form) api.Form {
	wantCount(l, 1, anyNumber)
	return lisp.Call("IF", l[0], lisp.Call("PROGN", l[1:]...))
}

func (m *maker) unless(l []api.Form) api.Form {
	wantCount(l, 1, anyNumber)
	return lisp.Call("IF", l[0], forms.Nil(), lisp.Call("PROGN", l[1:]...))
}

func (m *maker) and(l []api.Form) api.Form {
	switch len(l) {
	case 0:
		return lisp.Truth()
	case 1:
		return l[0]
	}
	return lisp.Call("IF", l[0], lisp.Call("AND", l[1:]...))
}

func (m *maker) or(l []api.Form) api.Form {
	switch len(l) {
	case 0:
		return forms.Nil()
	case 1:
		return l[0]
	}
	v := m.Fresh()
	return let(lisp.List(v, l[0]), lisp.Call("IF", v, v, lisp.Call("OR", l[1:]...)))
}

// let returns a LET form with one binding.
func let(binding api.Form, body ...api.Form) api.Form {
	return lisp.Body("LET", lisp.List(binding), body)
}

func (m *maker) cond(l []api.Form) api.Form {
	if len(l) == 0 {
		return forms.Nil()
	}
	clause := items(l[0])
	wantCount(clause, 1, anyNumber)
	rest := lisp.Call("COND", l[1:]...)
	if len(clause) == 1 {
		return lisp.Call("OR", clause[0], rest)
	}
	return lisp.Call("IF", clause[0], lisp.Call("PROGN", clause[1:]...), rest)
}

func (m *maker) keyCase(l []api.Form) api.Form {
	return m.choose(l, func(v, keys api.Form) api.Form {
		all, ok := lisp.Elements(keys)
		if !ok {
			return lisp.Call("EQL", v, lisp.Quote(keys))
		}
		var tests []api.Form
		for _, key := range all {
			tests = append(tests, lisp.Call("EQL", v, lisp.Quote(key)))
		}
		return lisp.Call("OR", tests...)
	})
}

func (m *maker) typeCase(l []api.Form) api.Form {
	return m.choose(l, func(v, name api.Form) api.Form { return lisp.Call("TYPEP", v, lisp.Quote(name)) })
}

// choose expands CASE and TYPECASE, which differ in the test of what a clause begins with.
func (m *maker) choose(l []api.Form, test func(v, first api.Form) api.Form) api.Form {
	wantCount(l, 1, anyNumber)
	v := m.Fresh()
	var clauses []api.Form
	for i, f := range l[1:] {
		clause := items(f)
		wantCount(clause, 1, anyNumber)
		first, body := clause[0], clause[1:]
		if len(body) == 0 {
			body = []api.Form{forms.Nil()}
		}
		isLast := i == len(l)-2
		if isLast && (lisp.Is(first, "T") || lisp.Is(first, "OTHERWISE")) {
			clauses = append(clauses, lisp.Body("T", body[0], body[1:]))
			continue
		}
		clauses = append(clauses, lisp.List(append([]api.Form{test(v, first)}, body...)...))
	}
	return let(lisp.List(v, l[0]), lisp.Call("COND", clauses...))
}

func (m *maker) prog1(l []api.Form) api.Form {
	wantCount(l, 1, anyNumber)
	v := m.Fresh()
	return let(lisp.List(v, l[0]), append(slices.Clone(l[1:]), v)...)
}

func (m *maker) prog2(l []api.Form) api.Form {
	wantCount(l, 2, anyNumber)
	return lisp.Call("PROGN", l[0], lisp.Call("PROG1", l[1:]...))
}

func (m *maker) returnNil(l []api.Form) api.Form {
	wantCount(l, 0, 1)
	return leave(otherwiseNil(l, 0))
}

// leave returns a form that leaves the block NIL.
func leave(f api.Form) api.Form { return lisp.Call("RETURN-FROM", forms.Nil(), f) }

func (m *maker) psetq(l []api.Form) api.Form {
	want(len(l)%2 == 0)
	var bindings, sets []api.Form
	for pair := range slices.Chunk(l, 2) {
		wantVariables(pair[:1])
		v := m.Fresh()
		bindings, sets = append(bindings, lisp.List(v, pair[1])), append(sets, pair[0], v)
	}
	return lisp.Call("LET", lisp.List(bindings...), lisp.Call("SETQ", sets...), forms.Nil())
}

// variables returns the elements of a list of variables.
func variables(f api.Form) []api.Form {
	l := items(f)
	wantVariables(l)
	return l
}

func (m *maker) valuesBind(l []api.Form) api.Form {
	wantCount(l, 2, anyNumber)
	list := append([]api.Form{lisp.Symbol("&OPTIONAL")}, variables(l[0])...)
	list = append(list, lisp.Symbol("&REST"), m.Fresh())
	return lisp.Call("MULTIPLE-VALUE-CALL", function(lisp.List(list...), l[2:]...), l[1])
}

func (m *maker) valuesList(l []api.Form) api.Form {
	wantCount(l, 1, 1)
	return lisp.Call("MULTIPLE-VALUE-CALL", lisp.Call("FUNCTION", lisp.Symbol("LIST")), l[0])
}

func (m *maker) valuesSetq(l []api.Form) api.Form {
	wantCount(l, 2, 2)
	all := variables(l[0])
	if len(all) == 0 {
		return lisp.Call("PROG1", l[1])
	}
	var fresh, sets []api.Form
	for _, v := range all {
		g := m.Fresh()
		fresh, sets = append(fresh, g), append(sets, v, g)
	}
	return lisp.Call("MULTIPLE-VALUE-BIND", lisp.List(fresh...), l[1], lisp.Call("SETQ", sets...), fresh[0])
}

func (m *maker) nthValue(l []api.Form) api.Form {
	wantCount(l, 2, 2)
	return lisp.Call("NTH", l[0], lisp.Call("MULTIPLE-VALUE-LIST", l[1]))
}

func (m *maker) destructuringBind(l []api.Form) api.Form {
	wantCount(l, 2, anyNumber)
	v := m.Fresh()
	return let(lisp.List(v, l[1]), m.bind(l[0], v, l[2:]))
}

// bind returns a form that binds the variables of a macro's lambda list to the parts of the value of another one.
func (m *maker) bind(list, from api.Form, body []api.Form) api.Form {
	parsed, e := lambda.Parse(list, true)
	want(e == api.OK)
	made, next, e := lambda.Bind(parsed, from, body, m.Next)
	must(e)
	m.Next = next
	return made
}
