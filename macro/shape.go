package macro

import (
	"commonform/api"
	"commonform/forms"
	"commonform/lambda"
	"commonform/lib"
	"commonform/lisp"
)

const anyNumber = -1 // of elements

// failure is what a walk panics with.
type failure struct{ end lib.End }

// fail ends a walk with the code of what is wrong.
func fail(e api.Errno) { panic(failure{end: lib.End{Kind: lib.EndBad, Code: e}}) }

// want fails if a form has not the shape that it should have.
func want(ok bool) {
	if !ok {
		fail(api.ErrForm)
	}
}

// must fails with an error of another layer.
func must(e api.Errno) {
	if e != api.OK {
		fail(e)
	}
}

// wantCount fails if a form has not as many elements as it should.
func wantCount(l []api.Form, least, most int) {
	want(len(l) >= least && (most == anyNumber || len(l) <= most))
}

// items returns the elements of a list that must be proper.
func items(f api.Form) []api.Form {
	l, ok := lisp.Elements(f)
	want(ok)
	return l
}

func isSymbol(f api.Form) bool { return f.Kind == api.FormSymbol }

// isVariable reports whether a form is a symbol that can be bound.
func isVariable(f api.Form) bool {
	l, e := lambda.Parse(lisp.List(f), false)
	return e == api.OK && len(l.Items) == 1
}

func wantVariables(l []api.Form) {
	for _, f := range l {
		want(isVariable(f))
	}
}

// isFunctionName reports whether a form is a symbol that can name a function.
func isFunctionName(f api.Form) bool {
	return isSymbol(f) && f.Home != "KEYWORD" && !forms.IsNil(f) && !lisp.Is(f, "T")
}

func isDeclaration(f api.Form) bool { return isCall(f, "DECLARE") }

// divide returns the declarations in front, and the forms behind them.
func divide(l []api.Form) (declarations, rest []api.Form) {
	take := func() bool {
		is := len(rest) > 0 && isDeclaration(rest[0])
		if is {
			declarations, rest = append(declarations, rest[0]), rest[1:]
		}
		return is
	}
	for rest = l; take(); {
	}
	return declarations, rest
}

// withoutText leaves out a documentation: a string that another form follows.
func withoutText(l []api.Form) []api.Form {
	if len(l) > 1 && l[0].Kind == api.FormString {
		return l[1:]
	}
	return l
}

// binding returns the variable of a binding, and what stands behind it.
func binding(f api.Form, most int) (api.Form, []api.Form) {
	parts := []api.Form{f}
	if f.Kind == api.FormCons {
		parts = items(f)
	}
	wantCount(parts, 1, most)
	wantVariables(parts[:1])
	return parts[0], parts[1:]
}

// functionName returns the symbol that the name of a function means, and that of its block.
func functionName(f api.Form) (symbol, block api.Form) {
	if isSymbol(f) {
		return f, f
	}
	l := items(f)
	want(len(l) == 2 && lisp.Is(l[0], "SETF") && isSymbol(l[1]))
	return forms.Symbol(l[1].Home, "(SETF "+l[1].Text+")"), l[1]
}

// parameters returns what a lambda list of a function says.
func parameters(f api.Form) lambda.List {
	l, e := lambda.Parse(f, false)
	want(e == api.OK)
	return l
}

func function(parameters api.Form, body ...api.Form) api.Form {
	return lisp.Call("FUNCTION", lisp.Body("LAMBDA", parameters, body))
}

// otherwiseNil returns the element behind so many others, or NIL.
func otherwiseNil(l []api.Form, i int) api.Form {
	if i < len(l) {
		return l[i]
	}
	return forms.Nil()
}
