package core

import (
	"slices"

	"commonform/api"
	"commonform/forms"
	"commonform/lambda"
)

// function is a function that was looked at: its lambda list and its body.
type function struct {
	list lambda.List
	body body
}

// functionOf returns the function with a lambda list and the forms behind it.
func (k *converter) functionOf(list api.Form, rest []api.Form) function {
	parsed, e := lambda.Parse(list, false)
	want(e == api.OK, e)
	fn := function{list: parsed, body: bodyOf(rest)}
	for _, f := range lambda.Variables(parsed) {
		want(f.Home != "" || !fn.body.isSpecial(k, f), api.ErrForm)
	}
	return fn
}

// lambdaForm converts (LAMBDA list decl .. form ..).
func (k *converter) lambdaForm(f api.Form, s *scope) api.Core {
	l, ok := elements(f)
	want(ok && forms.Is(l[0], lisp, "LAMBDA"), api.ErrForm)
	wantCount(l, 2, anyNumber)
	fn := k.functionOf(l[1], l[2:])
	return k.lambda(fn, s, func(inner *scope) api.Core { return fn.body.convert(k, inner) })
}

// lambda converts a function. The scope of each parameter begins behind it; special ones are bound behind all.
func (k *converter) lambda(fn function, s *scope, inside func(*scope) api.Core) api.Core {
	made := api.Core{Op: api.CoreLambda}
	if fn.list.Allow {
		made.N = 1
	}
	var aux, specials []binding
	var values []api.Core
	add := func(name api.Form) int {
		n := k.number(ofVariables)
		s = s.with(ofLexical, name, n)
		if fn.body.isSpecial(k, name) {
			specials = append(specials, binding{name: name, isSpecial: true})
			values = append(values, api.Core{Op: api.CoreVar, N: n})
		}
		return n
	}
	for _, item := range fn.list.Items {
		if item.Kind == lambda.Aux {
			aux = append(aux, binding{name: item.Var, init: item.Init})
			continue
		}
		p := api.Param{Kind: item.Kind, Given: notTold, Key: item.Key}
		if hasInit(item.Kind) {
			made.Kids = append(made.Kids, k.form(item.Init, s))
		}
		p.Var = add(item.Var)
		if item.Given.Kind == api.FormSymbol {
			p.Given = add(item.Given)
		}
		made.Pars = append(made.Pars, p)
	}
	fn.body.mark(k, aux)
	content := k.bindEach(aux, k.enter(specials, nil, s), inside)
	made.Kids = append(made.Kids, bindSpecials(specials, values, content))
	return made
}

// local is a function with a name.
type local struct {
	name api.Form
	function
}

// locals returns the functions of FLET and LABELS.
func (k *converter) locals(f api.Form) []local {
	l, ok := elements(f)
	want(ok, api.ErrForm)
	var all []local
	for _, f := range l {
		parts, ok := elements(f)
		want(ok, api.ErrForm)
		wantCount(parts, 2, anyNumber)
		want(parts[0].Kind == api.FormSymbol && !isConstant(parts[0]), api.ErrForm)
		all = append(all, local{name: parts[0], function: k.functionOf(parts[1], parts[2:])})
	}
	return all
}

// lambdas converts functions, whose forms stand in blocks of their names.
func (k *converter) lambdas(l []local, s *scope) []api.Core {
	var all []api.Core
	for _, fn := range l {
		all = append(all, k.lambda(fn.function, s, func(inner *scope) api.Core {
			return k.blockNamed(fn.name, fn.body.forms, fn.body.inner(inner))
		}))
	}
	return all
}

// name numbers functions, and returns the scope of their names; of two with one name the first one is meant.
func (k *converter) name(l []local, s *scope) ([]int, *scope) {
	var vars []int
	for range l {
		vars = append(vars, k.number(ofVariables))
	}
	for i, fn := range slices.Backward(l) {
		s = s.with(ofFunction, fn.name, vars[i])
	}
	return vars, s
}

func (k *converter) flet(l []api.Form, s *scope) api.Core {
	wantCount(l, 1, anyNumber)
	all, b := k.locals(l[0]), bodyOf(l[1:])
	kids := k.lambdas(all, s)
	vars, inner := k.name(all, s)
	return api.Core{Op: api.CoreLet, Vars: vars, Kids: append(kids, b.convert(k, inner))}
}

func (k *converter) labels(l []api.Form, s *scope) api.Core {
	wantCount(l, 1, anyNumber)
	all, b := k.locals(l[0]), bodyOf(l[1:])
	vars, inner := k.name(all, s)
	kids := k.lambdas(all, inner)
	return api.Core{Op: api.CoreLabels, Vars: vars, Kids: append(kids, b.convert(k, inner))}
}
