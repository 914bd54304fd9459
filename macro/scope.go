package macro

import (
	"slices"

	"commonform/api"
	"commonform/forms"
)

// scope is a name that means something, inside of other scopes; nil is the outermost one.
type scope struct {
	isFunction bool // functions and variables have names of their own
	name       api.Form
	lambda     *api.Core // of a local macro; a local function has none
	expansion  *api.Form // of a symbol macro; a variable has none
	outer      *scope
}

// find returns the innermost scope of a name.
func (s *scope) find(isFunction bool, name api.Form) *scope {
	for ; s != nil; s = s.outer {
		if s.isFunction == isFunction && forms.Equal(s.name, name) {
			return s
		}
	}
	return nil
}

// symbolMacro returns the expansion of a symbol macro.
func (s *scope) symbolMacro(name api.Form) (api.Form, bool) {
	found := s.find(false, name)
	if found == nil || found.expansion == nil {
		return api.Form{}, false
	}
	return *found.expansion, true
}

// variable returns the scope inside of one, in which a variable is bound; functions likewise with functions.
func (s *scope) variable(name api.Form) *scope { return &scope{name: name, outer: s} }

func (s *scope) functions(names []api.Form) *scope {
	for _, name := range names {
		s = &scope{isFunction: true, name: name, outer: s}
	}
	return s
}

// macros returns the scope inside of one with local macros. Of two with one name the first one counts.
func (s *scope) macros(names []api.Form, lambdas []api.Core) *scope {
	for i, name := range slices.Backward(names) {
		s = &scope{isFunction: true, name: name, lambda: &lambdas[i], outer: s}
	}
	return s
}

// symbolMacros returns a scope with symbol macros, likewise.
func (s *scope) symbolMacros(names, expansions []api.Form) *scope {
	for i, name := range slices.Backward(names) {
		s = &scope{name: name, expansion: &expansions[i], outer: s}
	}
	return s
}

// position is where a form stands: in a scope, so deep in the whole form, and whether it stands at the top.
type position struct {
	scope *scope
	depth int
	isTop bool
}

// inside returns a position so much deeper.
func (p position) inside(levels int) position {
	return position{scope: p.scope, depth: p.depth + levels}
}
