package types

import (
	"strings"

	"commonform/api"
	"commonform/forms"
	"commonform/number"
	"commonform/tree"
)

// The home of symbols that stand for what has no form, and their names.
const (
	noForm      = "%"
	builtinName = "BUILTIN"
	closureName = "CLOSURE"
	tableName   = "TABLE"
	otherName   = "OBJECT"
	keyword     = "KEYWORD"
)

// checkObject returns the error of an object.
func checkObject(x api.Form) api.Errno {
	if e := forms.Check(x); e != api.OK {
		return e
	}
	if !rightObject(x) {
		return api.ErrForm
	}
	return api.OK
}

// rightObject reports whether a form has no labels, and only numbers that are right.
func rightObject(x api.Form) bool {
	if x.Kind == api.FormLabel || forms.Number(x) && number.Check(x) != api.OK {
		return false
	}
	for _, kid := range x.Kids {
		if !rightObject(kid) {
			return false
		}
	}
	return true
}

// atomOf returns an object that is no cons as an atom.
func atomOf(x api.Form) atom {
	dims, _ := forms.Dimensions(x)
	return atom{kind: kindOf(x), form: x, dims: dims}
}

func kindOf(x api.Form) int {
	switch x.Kind {
	case api.FormSymbol:
		return symbolKind(x)
	case api.FormInt:
		return kindInteger
	case api.FormRatio:
		return kindRatio
	case api.FormSingle:
		return kindSingle
	case api.FormDouble:
		return kindDouble
	case api.FormComplex:
		return kindComplex
	case api.FormChar:
		return kindChar
	case api.FormString:
		return kindString
	case api.FormBits:
		return kindBits
	case api.FormVector:
		return kindVector
	}
	return kindArray
}

func symbolKind(x api.Form) int {
	switch {
	case x.Home == noForm:
		return formlessKind(x.Text)
	case forms.IsNil(x):
		return kindNil
	case forms.Is(x, lisp, "T"):
		return kindT
	case x.Home == keyword:
		return kindKeyword
	}
	return kindSymbol
}

func formlessKind(name string) int {
	switch name {
	case builtinName, closureName:
		return kindFunction
	case tableName:
		return kindTable
	}
	return kindOther
}

// Of returns a type that an object has, as special as types are here.
func Of(x api.Form) (api.Form, api.Errno) {
	if e := checkObject(x); e != api.OK {
		return api.Form{}, e
	}
	if t := typeOf(x, 0); rightSize(t) {
		return t, api.OK
	}
	return forms.Symbol(lisp, "T"), api.OK
}

// typeOf returns the type of an object that stands in some conses.
func typeOf(x api.Form, conses int) api.Form {
	switch x.Kind {
	case api.FormCons:
		if conses == maxConses {
			return forms.Symbol(lisp, "CONS")
		}
		return forms.Call("CONS", []api.Form{typeOf(x.Kids[0], conses+1), typeOf(behind(x), conses+1)})
	case api.FormSymbol:
		return symbolType(x)
	case api.FormString, api.FormBits, api.FormVector, api.FormArray:
		return arrayType(x)
	}
	return forms.Call("EQL", []api.Form{x})
}

func symbolType(x api.Form) api.Form {
	switch {
	case x.Home == "":
		return forms.Symbol(lisp, "SYMBOL")
	case x.Home != noForm:
		return forms.Call("EQL", []api.Form{x})
	}
	switch formlessKind(x.Text) {
	case kindFunction:
		return forms.Symbol(lisp, "FUNCTION")
	case kindTable:
		return forms.Symbol(lisp, "HASH-TABLE")
	}
	return forms.Symbol(lisp, "ATOM")
}

// arrayType returns the type of the arrays with the dimensions of one, if they are not too great for a specifier.
func arrayType(x api.Form) api.Form {
	dims, _ := forms.Dimensions(x)
	name, most := "ARRAY", maxDimension
	switch x.Kind {
	case api.FormString:
		name, most = "STRING", maxLength
	case api.FormBits:
		name, most = "BIT-VECTOR", maxLength
	case api.FormVector:
		name, most = "SIMPLE-VECTOR", maxLength
	}
	var l []api.Form
	for _, d := range dims {
		if d > most {
			return forms.Symbol(lisp, name)
		}
		l = append(l, whole(d))
	}
	switch {
	case x.Kind != api.FormArray:
		return forms.Call(name, l)
	case len(dims) > maxRank:
		return forms.Symbol(lisp, name)
	}
	return forms.Call(name, []api.Form{star(), forms.List(l)})
}

func star() api.Form { return forms.Symbol(lisp, "*") }

// made returns the form of an atom: arrays have the same element everywhere.
func (a atom) made() api.Form {
	size := 1
	for _, d := range a.dims {
		size *= d
	}
	switch a.kind {
	case kindString:
		return api.Form{Kind: api.FormString, Text: strings.Repeat("a", size)}
	case kindBits:
		return api.Form{Kind: api.FormBits, Text: strings.Repeat("0", size)}
	case kindVector:
		return api.Form{Kind: api.FormVector, Kids: zeros(size)}
	case kindArray:
		return api.Form{Kind: api.FormArray, Text: dimensionText(a.dims), Kids: zeros(size)}
	}
	return tree.Copy(a.form)
}

func zeros(n int) []api.Form {
	var l []api.Form
	for range n {
		l = append(l, whole(0))
	}
	return l
}

func dimensionText(dims []int) string {
	var texts []string
	for _, d := range dims {
		texts = append(texts, whole(d).Text)
	}
	return strings.Join(texts, " ")
}
