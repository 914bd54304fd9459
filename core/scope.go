package core

import (
	"commonform/api"
	"commonform/forms"
)

// Sorts of names.
const (
	ofLexical = iota
	ofSpecial // a name that means no lexical variable here
	ofFunction
	ofBlock
	ofTag
)

// scope is a name that means something, inside of other scopes; nil is the outermost one.
type scope struct {
	sort   int
	name   api.Form
	number int
	outer  *scope
}

// with returns a scope inside of another one.
func (s *scope) with(sort int, name api.Form, number int) *scope {
	return &scope{sort: sort, name: name, number: number, outer: s}
}

// find returns the number of the innermost name that counts.
func (s *scope) find(counts func(*scope) bool) (int, bool) {
	for ; s != nil; s = s.outer {
		if counts(s) {
			return s.number, true
		}
	}
	return 0, false
}

// named returns the number of the innermost name of a sort.
func (s *scope) named(sort int, name api.Form) (int, bool) {
	return s.find(func(inner *scope) bool { return inner.sort == sort && forms.Equal(inner.name, name) })
}

// variable returns the number of a lexical variable.
func (s *scope) variable(name api.Form) (int, bool) {
	sort := ofSpecial
	number, there := s.find(func(inner *scope) bool {
		sort = inner.sort
		return (sort == ofLexical || sort == ofSpecial) && forms.Equal(inner.name, name)
	})
	return number, there && sort == ofLexical
}
