package lib

import (
	"slices"

	"commonform/api"
	"commonform/forms"
	"commonform/heap"
	"commonform/types"
)

// valueRows are the functions of types, functions and values, with their arguments.
func valueRows() []row {
	return []row{
		{"TYPEP", "x x"}, {"SUBTYPEP", "x x"}, {"FUNCALL", "g x.."}, {"APPLY", "g x x.."}, {"VALUES", "x.."}, {"IDENTITY", "x"},
	}
}

func (w *World) valueOperations() map[string]operation {
	all := func(l []heap.Word) Answer { return values(l...) }
	return map[string]operation{
		"TYPEP":    w.typep,
		"SUBTYPEP": w.subtypep,
		"FUNCALL":  func(l []heap.Word) Answer { return w.handOn(l[0], l[1:]) },
		"APPLY":    w.apply,
		"VALUES":   all,
		"IDENTITY": all,
	}
}

// formOf returns the form of an object, or the symbol for one without a form.
func (w *World) formOf(x heap.Word) api.Form {
	f, e := w.Show(x)
	if e != api.OK {
		return noObject()
	}
	return f
}

func noObject() api.Form { return forms.Symbol(noForm, "OBJECT") }

// plainOf returns a form without labels that tells what an object is.
func (w *World) plainOf(x heap.Word) api.Form {
	f := w.formOf(x)
	if !hasLabels(f) {
		return f
	}
	return w.outline(x)
}

// outline stands for an object of whose parts nothing can be told.
func (w *World) outline(x heap.Word) api.Form {
	if w.isCons(x) {
		return forms.Dotted([]api.Form{noObject()}, noObject())
	}
	return noObject()
}

func hasLabels(f api.Form) bool {
	return f.Kind == api.FormLabel || f.Kind == api.FormRef || slices.ContainsFunc(f.Kids, hasLabels)
}

func (w *World) typep(l []heap.Word) Answer {
	t := w.plainOf(l[1])
	if types.Check(t) != api.OK {
		w.fail(simpleError, l[1])
	}
	is, e := types.Typep(w.plainOf(l[0]), t)
	if e != api.OK { // it has a number that is none
		is, _ = types.Typep(w.outline(l[0]), t)
	}
	return w.is(is)
}

func (w *World) subtypep(l []heap.Word) Answer {
	var both []api.Form
	for _, x := range l {
		t := w.plainOf(x)
		if types.Check(t) != api.OK {
			w.fail(simpleError, x)
		}
		both = append(both, t)
	}
	is, _, e := types.Subtypep(both[0], both[1])
	must(e)
	return values(w.is(is).Values[0], w.trueWord())
}

// handOn returns the answer by which a function, or that of a symbol, is called with arguments: by the caller, unless it is a builtin one.
func (w *World) handOn(function heap.Word, args []heap.Word) Answer {
	if w.isOf('s', function) {
		function = w.functionOf(function)
	}
	if w.heap.Kind(function) == heap.KindBuiltin {
		return Answer{Kind: answerAgain, Function: function, Values: args}
	}
	return Answer{Kind: AnswerNext, Function: function, Values: args}
}

func (w *World) apply(l []heap.Word) Answer {
	last := len(l) - 1
	a := w.handOn(l[0], l[1:last])
	rest, ok := w.elements(l[last])
	if !ok {
		w.failType(l[last], "LIST")
	}
	a.Values = slices.Concat(a.Values, rest)
	return a
}
