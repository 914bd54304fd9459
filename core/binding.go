package core

import (
	"slices"

	"commonform/api"
	"commonform/forms"
	"commonform/tree"
)

// body is what stands behind bindings: the variables that it declares special, and its forms.
type body struct {
	declared []api.Form
	forms    []api.Form
}

// bodyOf returns the body with some forms, of which the first ones may be declarations.
func bodyOf(l []api.Form) body {
	var b body
	for len(l) > 0 && isDeclaration(l[0]) {
		specs, ok := elements(l[0])
		want(ok, ErrDeclare)
		for _, spec := range specs[1:] {
			b.declare(spec)
		}
		l = l[1:]
	}
	b.forms = l
	return b
}

func isDeclaration(f api.Form) bool {
	return f.Kind == api.FormCons && forms.Is(f.Kids[0], lisp, "DECLARE")
}

func (b *body) declare(spec api.Form) {
	l, ok := elements(spec)
	want(ok && len(l) > 0 && l[0].Kind == api.FormSymbol, ErrDeclare)
	if !forms.Is(l[0], lisp, "SPECIAL") {
		return
	}
	for _, f := range l[1:] {
		if isVariable(f) {
			b.declared = append(b.declared, f)
		}
	}
}

// convert converts the forms of a body.
func (b body) convert(k *converter, s *scope) api.Core {
	return k.progn(b.forms, b.inner(s))
}

// inner returns the scope of the forms.
func (b body) inner(s *scope) *scope {
	for _, f := range b.declared {
		s = s.with(ofSpecial, f, 0)
	}
	return s
}

// isSpecial reports whether a variable that a form with this body binds is special.
func (b body) isSpecial(k *converter, f api.Form) bool {
	isSame := func(declared api.Form) bool { return forms.Equal(declared, f) }
	return k.specials[nameOf(f)] || slices.ContainsFunc(b.declared, isSame)
}

// binding is a variable that is bound to the value of a form.
type binding struct {
	name, init api.Form
	isSpecial  bool
}

// bindings returns those of a LET form, where none may bind a variable of one ahead if they have to be distinct.
func bindings(f api.Form, distinct bool) []binding {
	l, ok := elements(f)
	want(ok, api.ErrForm)
	met := map[[2]string]bool{}
	var all []binding
	for _, f := range l {
		b := bindingOf(f)
		want(!distinct || !met[nameOf(b.name)], api.ErrTwice)
		met[nameOf(b.name)] = true
		all = append(all, b)
	}
	return all
}

func bindingOf(f api.Form) binding {
	parts := []api.Form{f}
	if f.Kind == api.FormCons {
		l, ok := elements(f)
		want(ok, api.ErrForm)
		parts = l
	}
	wantCount(parts, 1, 2)
	want(isVariable(parts[0]), api.ErrForm)
	if len(parts) == 1 {
		return binding{name: parts[0], init: forms.Nil()}
	}
	return binding{name: parts[0], init: parts[1]}
}

// mark tells which bindings are special; such a variable must have a home.
func (b body) mark(k *converter, l []binding) {
	for i := range l {
		l[i].isSpecial = b.isSpecial(k, l[i].name)
		want(!l[i].isSpecial || l[i].name.Home != "", api.ErrForm)
	}
}

func (k *converter) let(l []api.Form, s *scope) api.Core {
	wantCount(l, 1, anyNumber)
	all, b := bindings(l[0], true), bodyOf(l[1:])
	b.mark(k, all)
	return k.bind(all, s, func(inner *scope) api.Core { return b.convert(k, inner) })
}

func (k *converter) letStar(l []api.Form, s *scope) api.Core {
	wantCount(l, 1, anyNumber)
	all, b := bindings(l[0], false), bodyOf(l[1:])
	b.mark(k, all)
	return k.bindEach(all, s, func(inner *scope) api.Core { return b.convert(k, inner) })
}

func (k *converter) locally(l []api.Form, s *scope) api.Core {
	return bodyOf(l).convert(k, s)
}

// bindEach binds variables one inside of the other.
func (k *converter) bindEach(l []binding, s *scope, inside func(*scope) api.Core) api.Core {
	if len(l) == 0 {
		return inside(s)
	}
	return k.bind(l[:1], s, func(inner *scope) api.Core { return k.bindEach(l[1:], inner, inside) })
}

// bind binds variables together.
func (k *converter) bind(l []binding, s *scope, inside func(*scope) api.Core) api.Core {
	if len(l) == 0 {
		return inside(s)
	}
	var inits []api.Core
	for _, b := range l {
		inits = append(inits, k.form(b.init, s))
	}
	if !slices.ContainsFunc(l, func(b binding) bool { return !b.isSpecial }) {
		return bindSpecials(l, inits, inside(k.enter(l, nil, s)))
	}
	var vars []int
	for range l {
		vars = append(vars, k.number(ofVariables))
	}
	var specials []binding
	var values []api.Core
	for i, b := range l {
		if b.isSpecial {
			specials = append(specials, b)
			values = append(values, api.Core{Op: api.CoreVar, N: vars[i]})
		}
	}
	content := bindSpecials(specials, values, inside(k.enter(l, vars, s)))
	return api.Core{Op: api.CoreLet, Vars: vars, Kids: append(inits, content)}
}

// enter returns the scope of bound variables; lexical ones have numbers.
func (k *converter) enter(l []binding, vars []int, s *scope) *scope {
	for i, b := range l {
		if b.isSpecial {
			s = s.with(ofSpecial, b.name, 0)
		} else {
			s = s.with(ofLexical, b.name, vars[i])
		}
	}
	return s
}

// bindSpecials binds special variables around a tree, if there are any.
func bindSpecials(l []binding, values []api.Core, content api.Core) api.Core {
	if len(l) == 0 {
		return content
	}
	made := api.Core{Op: api.CoreBind, Kids: append(values, content)}
	for _, b := range l {
		made.Syms = append(made.Syms, tree.Copy(b.name))
	}
	return made
}
