package reader

import (
	"commonform/api"
	"commonform/forms"
	"commonform/notation"
	"commonform/tree"
)

// Backquote returns the form that makes what stands behind a backquote.
func Backquote(f api.Form) (result api.Form, e api.Errno) {
	if e := forms.Check(f); e != api.OK {
		return api.Form{}, e
	}
	if hasLabel(f) {
		return api.Form{}, forms.ErrLabel
	}
	defer func() {
		if failed, ok := recover().(failure); ok {
			result, e = api.Form{}, failed.code
		}
	}()
	made := expand(f, 1)
	if nodes, depth := forms.Size(made); nodes > api.MaxForm || depth > api.MaxDepth {
		return api.Form{}, api.ErrSize
	}
	return tree.Copy(made), api.OK
}

func hasLabel(f api.Form) bool {
	if f.Kind == api.FormLabel {
		return true
	}
	for _, kid := range f.Kids {
		if hasLabel(kid) {
			return true
		}
	}
	return false
}

// expand returns the form whose value is f, in a depth of backquotes; depth 1 is where commas have their values put in.
func expand(f api.Form, depth int) api.Form {
	switch {
	case depth == 1 && isComma(f):
		return commaValue(f)
	case f.Kind == api.FormVector:
		function := forms.Call("FUNCTION", []api.Form{lisp("VECTOR")})
		return forms.Call("APPLY", []api.Form{function, expand(forms.List(f.Kids), depth)})
	case f.Kind == api.FormCons:
		return expandList(f, depth)
	}
	return quoted(f)
}

// commaValue returns what is put in for a list that begins with COMMA or SPLICE.
func commaValue(f api.Form) api.Form {
	switch {
	case notation.Is(f, notation.Comma):
		return f.Kids[1]
	case notation.Is(f, notation.Splice):
		panic(failure{code: ErrComma})
	}
	panic(failure{code: api.ErrForm})
}

// expandList makes a part for each element, and one for the tail.
func expandList(f api.Form, depth int) api.Form {
	items, tail := splitTail(f)
	inner := depth
	switch {
	case notation.Is(f, notation.Backquote):
		inner++
	case notation.Is(f, notation.Comma), notation.Is(f, notation.Splice):
		inner--
	}
	var parts []api.Form
	for _, item := range items {
		if inner == 1 && notation.Is(item, notation.Splice) {
			parts = append(parts, item.Kids[1])
		} else {
			parts = append(parts, forms.Call("LIST", []api.Form{expand(item, inner)}))
		}
	}
	return forms.Call("APPEND", append(parts, expand(tail, depth)))
}

// splitTail returns the elements and the tail of a list; a comma behind a dot was read as two more elements.
func splitTail(f api.Form) ([]api.Form, api.Form) {
	items, tail := forms.Spread(f)
	at := len(items) - 2
	if at < 1 || !forms.IsNil(tail) {
		return items, tail
	}
	if comma := forms.List(items[at:]); isComma(comma) {
		return items[:at], comma
	}
	return items, tail
}

// isComma reports whether a form is a list that begins with COMMA or SPLICE.
func isComma(f api.Form) bool {
	return notation.Begins(f, notation.Comma) || notation.Begins(f, notation.Splice)
}

func lisp(name string) api.Form { return forms.Symbol("COMMON-LISP", name) }

func quoted(f api.Form) api.Form { return forms.Call("QUOTE", []api.Form{f}) }
