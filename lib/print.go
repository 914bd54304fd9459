package lib

import (
	"commonform/api"
	"commonform/format"
	"commonform/heap"
	"commonform/printer"
	"commonform/reader"
)

// printRows are the functions of printing and reading, with their arguments.
func printRows() []row {
	return []row{
		{"PRIN1", "x"}, {"PRINC", "x"}, {"PRINT", "x"}, {"TERPRI", ""}, {"WRITE-STRING", "t"},
		{"PRIN1-TO-STRING", "x"}, {"PRINC-TO-STRING", "x"}, {"READ-FROM-STRING", "t"}, {"FORMAT", "x t x.."},
	}
}

func (w *World) printOperations() map[string]operation {
	return map[string]operation{
		"PRIN1":            func(l []heap.Word) Answer { return w.print(w.printed(l[0], true), l[0]) },
		"PRINC":            func(l []heap.Word) Answer { return w.print(w.printed(l[0], false), l[0]) },
		"PRINT":            func(l []heap.Word) Answer { return w.print("\n"+w.printed(l[0], true)+" ", l[0]) },
		"TERPRI":           func([]heap.Word) Answer { return w.print("\n", heap.Nil) },
		"WRITE-STRING":     func(l []heap.Word) Answer { return w.print(w.text(l[0]), l[0]) },
		"PRIN1-TO-STRING":  func(l []heap.Word) Answer { return values(w.newText(w.printed(l[0], true))) },
		"PRINC-TO-STRING":  func(l []heap.Word) Answer { return values(w.newText(w.printed(l[0], false))) },
		"READ-FROM-STRING": w.readFrom,
		"FORMAT":           w.format,
	}
}

// printed returns the text of an object.
func (w *World) printed(x heap.Word, escape bool) string {
	text, e := printer.Text(w.formOf(x), escape)
	if e != api.OK {
		w.fail(simpleError, x)
	}
	return text
}

// print adds a text to the output, and answers a value.
func (w *World) print(text string, x heap.Word) Answer {
	must(w.Print(text))
	return values(x)
}

func (w *World) readFrom(l []heap.Word) Answer {
	found, _, e := reader.One(reader.Standard(user), w.text(l[0]))
	if e != api.OK {
		w.fail(parseError, l[0])
	}
	x, e := w.Build(found.Form)
	if e == api.ErrWords {
		panic(e)
	}
	if e != api.OK {
		w.fail(parseError, l[0])
	}
	return values(x)
}

func (w *World) format(l []heap.Word) Answer {
	var args []api.Form
	for _, x := range l[2:] {
		args = append(args, w.formOf(x))
	}
	text, e := format.Format(w.text(l[1]), args)
	if e != api.OK {
		w.fail(simpleError, l[1])
	}
	if l[0] == heap.Nil {
		return values(w.newText(text))
	}
	return w.print(text, heap.Nil)
}
