package macro

import (
	"slices"

	"commonform/api"
	"commonform/forms"
	"commonform/lambda"
	"commonform/lisp"
)

// isSpecial reports whether a symbol begins special forms, or one of the forms that make environments: it means no macro.
func isSpecial(f api.Form) bool {
	if f.Home != lisp.Home {
		return false
	}
	switch f.Text {
	case "QUOTE", "FUNCTION", "IF", "PROGN", "LET", "LET*", "SETQ", "BLOCK", "RETURN-FROM", "TAGBODY", "GO",
		"CATCH", "THROW", "UNWIND-PROTECT", "MULTIPLE-VALUE-CALL", "MULTIPLE-VALUE-PROG1", "PROGV",
		"FLET", "LABELS", "LOCALLY", "THE", "LOAD-TIME-VALUE", "MACROLET", "SYMBOL-MACROLET", "EVAL-WHEN":
		return true
	}
	return false
}

// special expands the parts of a special form that are evaluated.
func (x *walker) special(f api.Form, name string, l []api.Form, p position) api.Form {
	switch name {
	case "FUNCTION":
		return x.function(l, p)
	case "LET", "LET*":
		return x.let(name, l, p)
	case "SETQ":
		return x.setq(f, l, p)
	case "TAGBODY":
		return x.tagbody(l, p)
	case "FLET", "LABELS":
		return x.locals(name, l, p)
	case "LOCALLY":
		return lisp.Call(name, x.body(l, p)...)
	case "MACROLET":
		return x.macrolet(f, l, p)
	case "SYMBOL-MACROLET":
		return x.symbolMacrolet(f, l, p)
	case "EVAL-WHEN":
		return x.evalWhen(f, l, p)
	}
	from, to := evaluated(name, l)
	made := slices.Clone(l)
	copy(made[from:to], x.forms(l[from:to], p.inside(1)))
	return lisp.Call(name, made...)
}

// evaluated returns which elements of a special form are evaluated: from one on, up to another one.
func evaluated(name string, l []api.Form) (from, to int) {
	least, most := 1, anyNumber
	to = len(l)
	switch name {
	case "PROGN":
		least = 0
	case "PROGV":
		least = 2
	case "IF":
		least, most = 2, 3
	case "THROW":
		least, most = 2, 2
	case "THE":
		least, most, from = 2, 2, 1
	case "LOAD-TIME-VALUE":
		most, to = 2, min(to, 1)
	case "RETURN-FROM":
		most = 2
		fallthrough
	case "BLOCK":
		want(len(l) > 0 && isSymbol(l[0]))
		from = 1
	case "GO":
		want(len(l) > 0 && isTag(l[0]))
		fallthrough
	case "QUOTE":
		most, to = 1, 0
	}
	wantCount(l, least, most)
	return from, to
}

func isTag(f api.Form) bool { return isSymbol(f) || f.Kind == api.FormInt }

// body expands the forms behind declarations, none of which may become one.
func (x *walker) body(l []api.Form, p position) []api.Form {
	declarations, rest := divide(l)
	for _, f := range rest {
		made := x.form(f, p.inside(1))
		want(!isDeclaration(made))
		declarations = append(declarations, made)
	}
	return declarations
}

func (x *walker) function(l []api.Form, p position) api.Form {
	wantCount(l, 1, 1)
	if l[0].Kind != api.FormCons {
		want(isFunctionName(l[0]))
		return lisp.Call("FUNCTION", l[0])
	}
	return lisp.Call("FUNCTION", x.lambdaForm(l[0], p.inside(1)))
}

// lambdaForm expands what stands in (LAMBDA list decl .. form ..).
func (x *walker) lambdaForm(f api.Form, p position) api.Form {
	l := items(f)
	want(lisp.Is(l[0], "LAMBDA"))
	wantCount(l, 2, anyNumber)
	list, body := x.parts(l[1], l[2:], p)
	return lisp.Body("LAMBDA", list, body)
}

// parts expands the init forms of a lambda list, and the body of its function.
func (x *walker) parts(list api.Form, body []api.Form, p position) (api.Form, []api.Form) {
	_, e := lambda.Parse(list, false)
	want(e == api.OK || e == api.ErrTwice) // a twin is an error of its own
	var made []api.Form
	inner := p
	for _, f := range items(list) {
		parameter, names := x.parameter(f, inner.inside(2))
		made = append(made, parameter)
		for _, name := range names {
			inner.scope = inner.scope.variable(name)
		}
	}
	return lisp.List(made...), x.body(body, inner)
}

// parameter expands the init form of an element of a lambda list, and returns the variables that it binds.
func (x *walker) parameter(f api.Form, p position) (api.Form, []api.Form) {
	if isSymbol(f) {
		return f, []api.Form{f} // a marker hides nothing: it is no variable
	}
	parts := slices.Clone(items(f))
	if len(parts) > 1 {
		parts[1] = x.form(parts[1], p.inside(1))
	}
	names := parts[:1]
	if names[0].Kind == api.FormCons {
		names = items(names[0])[1:]
	}
	if len(parts) > 2 {
		names = []api.Form{names[0], parts[2]}
	}
	return lisp.List(parts...), names
}

func (x *walker) let(name string, l []api.Form, p position) api.Form {
	wantCount(l, 1, anyNumber)
	inner := p
	made := slices.Clone(items(l[0]))
	var variables []api.Form
	var inits [][]api.Form
	for _, f := range made {
		v, rest := binding(f, 2)
		variables, inits = append(variables, v), append(inits, rest)
	}
	for i, v := range variables {
		at := p
		if name == "LET*" {
			at = inner
		}
		if len(inits[i]) > 0 {
			made[i] = lisp.List(v, x.form(inits[i][0], at.inside(3)))
		}
		inner.scope = inner.scope.variable(v)
	}
	return lisp.Body(name, lisp.List(made...), x.body(l[1:], inner))
}

// setq expands the values; where a symbol macro is set, its expansion is written instead.
func (x *walker) setq(f api.Form, l []api.Form, p position) api.Form {
	want(len(l)%2 == 0)
	isPlain := true
	for i := 0; i < len(l); i += 2 {
		want(isVariable(l[i]))
		_, isMacro := p.scope.symbolMacro(l[i])
		isPlain = isPlain && !isMacro
	}
	if isPlain {
		made := slices.Clone(l)
		for i := 1; i < len(l); i += 2 {
			made[i] = x.form(l[i], p.inside(1))
		}
		return lisp.Call("SETQ", made...)
	}
	if len(l) == 2 {
		x.count()
		place, _ := p.scope.symbolMacro(l[0])
		return x.form(x.replaced(f, lisp.Call("SETF", place, l[1]), p), p)
	}
	var each []api.Form
	for pair := range slices.Chunk(l, 2) {
		each = append(each, lisp.Call("SETQ", pair...))
	}
	return x.form(x.replaced(f, lisp.Call("PROGN", each...), p), p)
}

// tagbody expands the forms between the tags. A form that becomes a symbol or an integer is kept from being a tag.
func (x *walker) tagbody(l []api.Form, p position) api.Form {
	var made []api.Form
	for _, f := range l {
		if !isTag(f) {
			f = x.form(f, p.inside(1))
			if isTag(f) {
				f = lisp.Call("PROGN", f)
			}
		}
		made = append(made, f)
	}
	return lisp.Call("TAGBODY", made...)
}

// locals expands local functions, which hide macros of their names.
func (x *walker) locals(name string, l []api.Form, p position) api.Form {
	wantCount(l, 1, anyNumber)
	var names []api.Form
	for _, f := range items(l[0]) {
		parts := items(f)
		wantCount(parts, 2, anyNumber)
		want(isFunctionName(parts[0]))
		names = append(names, parts[0])
	}
	inner := p
	inner.scope = p.scope.functions(names)
	at := p
	if name == "LABELS" {
		at = inner
	}
	var made []api.Form
	for _, f := range items(l[0]) {
		parts := items(f)
		list, body := x.parts(parts[1], parts[2:], at.inside(2))
		made = append(made, lisp.List(append([]api.Form{parts[0], list}, body...)...))
	}
	return lisp.Body(name, lisp.List(made...), x.body(l[1:], inner))
}

// locally puts a LOCALLY form with some forms in the place of another one, and expands these.
func (x *walker) locally(f api.Form, l []api.Form, p position) api.Form {
	x.replaced(f, lisp.Call("LOCALLY", l...), p)
	return lisp.Call("LOCALLY", x.body(l, p)...)
}

func (x *walker) macrolet(f api.Form, l []api.Form, p position) api.Form {
	wantCount(l, 1, anyNumber)
	var names []api.Form
	for _, f := range items(l[0]) {
		parts := items(f)
		wantCount(parts, 2, anyNumber)
		names = append(names, parts[0])
	}
	var lambdas []api.Core
	for _, f := range items(l[0]) {
		parts := items(f)
		lambdas = append(lambdas, x.macroFunction(parts[0], parts[1], parts[2:]))
	}
	inner := p
	inner.scope = p.scope.macros(names, lambdas)
	return x.locally(f, l[1:], inner)
}

func (x *walker) symbolMacrolet(f api.Form, l []api.Form, p position) api.Form {
	wantCount(l, 1, anyNumber)
	var names, expansions []api.Form
	for _, f := range items(l[0]) {
		parts := items(f)
		wantCount(parts, 2, 2)
		wantVariables(parts[:1])
		names, expansions = append(names, parts[0]), append(expansions, parts[1])
	}
	inner := p
	inner.scope = p.scope.symbolMacros(names, expansions)
	_, rest := divide(l[1:])
	return x.locally(f, rest, inner)
}

func (x *walker) evalWhen(f api.Form, l []api.Form, p position) api.Form {
	wantCount(l, 1, anyNumber)
	made := forms.Nil()
	if slices.ContainsFunc(items(l[0]), isNow) {
		made = lisp.Call("PROGN", l[1:]...)
	}
	return x.form(x.replaced(f, made, p), p)
}

// isNow tells the situations in which a form is evaluated.
func isNow(f api.Form) bool {
	return forms.Is(f, keyword, "EXECUTE") || forms.Is(f, keyword, "LOAD-TOPLEVEL") || lisp.Is(f, "EVAL") || lisp.Is(f, "LOAD")
}
