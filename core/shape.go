package core

import (
	"commonform/api"
	"commonform/forms"
	"commonform/lambda"
)

// Fields of nodes, in the order in which they are written.
const (
	fieldN = 1 << iota
	fieldVars
	fieldSyms
	fieldPars
	fieldData
)

// shape is what all nodes of an op have.
type shape struct {
	name   string
	fields int
	kids   int  // those that do not follow from fields
	more   bool // there may be any number of further ones
}

// shapes are those of the ops, by their numbers.
var shapes = [...]shape{
	api.CoreConst:       {name: "const", fields: fieldData},
	api.CoreVar:         {name: "var", fields: fieldN},
	api.CoreSet:         {name: "set", fields: fieldN, kids: 1},
	api.CoreSpecial:     {name: "special", fields: fieldData},
	api.CoreSetSpecial:  {name: "setspecial", fields: fieldData, kids: 1},
	api.CoreFunction:    {name: "function", fields: fieldData},
	api.CoreLambda:      {name: "lambda", fields: fieldN | fieldPars, kids: 1},
	api.CoreCall:        {name: "call", kids: 1, more: true},
	api.CoreCallGlobal:  {name: "callglobal", fields: fieldData, more: true},
	api.CoreIf:          {name: "if", kids: 3},
	api.CoreProgn:       {name: "progn", more: true},
	api.CoreLet:         {name: "let", fields: fieldVars, kids: 1},
	api.CoreLabels:      {name: "labels", fields: fieldVars, kids: 1},
	api.CoreBind:        {name: "bind", fields: fieldSyms, kids: 1},
	api.CoreProgv:       {name: "progv", kids: 3},
	api.CoreBlock:       {name: "block", fields: fieldN, kids: 1},
	api.CoreReturn:      {name: "return", fields: fieldN, kids: 1},
	api.CoreTagbody:     {name: "tagbody", fields: fieldVars, kids: 1},
	api.CoreGo:          {name: "go", fields: fieldN},
	api.CoreCatch:       {name: "catch", kids: 2},
	api.CoreThrow:       {name: "throw", kids: 2},
	api.CoreProtect:     {name: "protect", kids: 2},
	api.CoreValuesCall:  {name: "valuescall", kids: 1, more: true},
	api.CoreValuesFirst: {name: "valuesfirst", kids: 1, more: true},
}

// shapeOf returns the shape of an op.
func shapeOf(op int) (shape, bool) {
	if op < api.CoreConst || op >= len(shapes) {
		return shape{}, false
	}
	return shapes[op], true
}

func (s shape) has(field int) bool { return s.fields&field != 0 }

// fits reports whether a node has the fields of its op, none that are not its own, and as many kids as go with them.
func (s shape) fits(c api.Core) bool {
	isOwn := func(field int, isZero bool) bool { return s.has(field) || isZero }
	if !isOwn(fieldN, c.N == 0) || !isOwn(fieldVars, len(c.Vars) == 0) || !isOwn(fieldSyms, len(c.Syms) == 0) {
		return false
	}
	if !isOwn(fieldPars, len(c.Pars) == 0) || !isOwn(fieldData, isZero(c.Data)) {
		return false
	}
	kids := s.kids + len(c.Vars) + len(c.Syms)
	for _, p := range c.Pars {
		if hasInit(p.Kind) {
			kids++
		}
	}
	return len(c.Kids) == kids || s.more && len(c.Kids) > kids
}

func isZero(f api.Form) bool { return forms.Equal(f, api.Form{}) }

// isGlobal reports whether a form is a symbol that may be a special variable, or the name of a function.
func isGlobal(f api.Form) bool {
	return forms.Check(f) == api.OK && f.Kind == api.FormSymbol && f.Home != "" && !forms.IsNil(f) && !isTrue(f)
}

func isTrue(f api.Form) bool { return forms.Is(f, lisp, "T") }

// isVariable reports whether a symbol may be a variable: the layer of lambda lists says which ones may.
func isVariable(f api.Form) bool {
	if f.Kind != api.FormSymbol {
		return false
	}
	l, e := lambda.Parse(forms.List([]api.Form{f}), false)
	return e == api.OK && len(l.Items) == 1
}
