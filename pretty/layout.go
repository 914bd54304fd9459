package pretty

import (
	"strconv"
	"strings"

	"commonform/api"
	"commonform/forms"
	"commonform/notation"
	"commonform/printer"
)

const (
	argumentIndent = 3
	bodyIndent     = 1
)

// Styles returns the usual styles.
func Styles() []Style {
	return []Style{
		{"DEFUN", 2}, {"DEFMACRO", 2}, {"LAMBDA", 1}, {"LET", 1}, {"LET*", 1}, {"FLET", 1}, {"LABELS", 1}, {"MACROLET", 1}, {"SYMBOL-MACROLET", 1},
		{"WHEN", 1}, {"UNLESS", 1}, {"DOLIST", 1}, {"DOTIMES", 1}, {"BLOCK", 1}, {"CATCH", 1}, {"EVAL-WHEN", 1}, {"HANDLER-BIND", 1}, {"PROGN", 0}, {"UNWIND-PROTECT", 1},
		{"MULTIPLE-VALUE-BIND", 2}, {"DESTRUCTURING-BIND", 2}, {"DEFCLASS", 2}, {"CASE", 1}, {"COND", 0}, {"IF", 1},
	}
}

// Layout returns the operations for a form.
func Layout(o printer.Options, styles []Style, f api.Form) ([]Op, api.Errno) {
	if e := printer.Check(o); e != api.OK {
		return nil, e
	}
	if len(styles) > maxStyles {
		return nil, api.ErrSize
	}
	for _, style := range styles {
		if style.Args < 0 || style.Args > maxArgs {
			return nil, api.ErrArg
		}
	}
	if _, e := printer.Print(o, f); e != api.OK {
		return nil, e
	}
	prepare := forms.Plain
	if o.Circle {
		prepare = forms.Normal
	}
	f, _ = prepare(f) // its errors are those of Print
	l := layout{options: o, styles: styles}
	l.node(f, place{})
	if e := Check(l.ops); e != api.OK {
		return nil, e
	}
	return l.ops, api.OK
}

// place is where a node stands: in how many lists, and in how many backquotes.
type place struct{ level, depth int }

// layout makes the operations of a form that can be printed.
type layout struct {
	options printer.Options
	styles  []Style
	ops     []Op
}

func (l *layout) add(op Op) { l.ops = append(l.ops, op) }

func (l *layout) text(s string) { l.add(Op{Kind: Text, Text: s}) }

// leaf adds what is printed of a form that is printed in one piece.
func (l *layout) leaf(f api.Form) {
	text, _ := printer.Print(l.options, f)
	l.text(text)
}

// node adds the operations of a node.
func (l *layout) node(f api.Form, at place) {
	switch f.Kind {
	case api.FormLabel:
		l.text("#" + f.Text + "=")
		l.node(f.Kids[0], at)
	case api.FormRef:
		l.text("#" + f.Text + "#")
	case api.FormCons:
		l.cons(f, at)
	case api.FormVector, api.FormArray:
		l.array(f, at)
	default:
		l.leaf(f)
	}
}

func (l *layout) cons(f api.Form, at place) {
	if l.options.Abbrev {
		if front, depth := notation.Front(f, at.depth); front != "" {
			l.abbreviated(front, f.Kids[1], place{level: at.level, depth: depth})
			return
		}
	}
	items, tail := forms.Spread(f)
	var last func()
	if !forms.IsNil(tail) {
		last = func() {
			l.text(". ")
			l.node(tail, at.inside())
		}
	}
	l.list("", "(", at, l.gapOf(items[0]), l.elements(len(items), l.nodes(items, at), last))
}

// nodes returns what adds the element of a list with an index.
func (l *layout) nodes(items []api.Form, at place) func(i int) {
	return func(i int) { l.node(items[i], at.inside()) }
}

// abbreviated adds the characters in front of a form, and the form.
func (l *layout) abbreviated(front string, f api.Form, at place) {
	index := len(l.ops)
	l.text(front)
	l.node(f, at)
	for _, op := range l.ops[index+1:] {
		if op.Text == "" {
			continue
		}
		if front == notation.CommaText && strings.HasPrefix(op.Text, "@") { // as the printer parts them
			l.ops[index].Text += " "
		}
		break
	}
}

func (p place) inside() place {
	p.level++
	return p
}

// elements returns what adds each element of a list, as far as the length lets it, and what stands behind them.
func (l *layout) elements(count int, element func(i int), last func()) []func() {
	var all []func()
	for i := range count {
		if i == l.options.Length {
			return append(all, func() { l.text("...") })
		}
		all = append(all, func() { element(i) })
	}
	if last != nil {
		all = append(all, last)
	}
	return all
}

// list adds elements between brackets; gap adds what stands behind the element with an index.
func (l *layout) list(front, open string, at place, gap func(i int), elements []func()) {
	if at.level == l.options.Level {
		l.text(front + "#")
		return
	}
	l.add(Op{Kind: Open, Text: front + open})
	for i, element := range elements {
		if i > 0 {
			l.text(" ")
			gap(i - 1)
		}
		element()
	}
	l.add(Op{Kind: Close, Text: ")"})
}

// gapOf returns what adds the newlines and indents of a list with a first element.
func (l *layout) gapOf(first api.Form) func(i int) {
	if first.Kind != api.FormSymbol {
		return l.fill
	}
	for _, style := range l.styles {
		if forms.Is(first, "COMMON-LISP", style.Name) {
			return func(i int) { l.styledGap(i, style.Args) }
		}
	}
	return l.callGap
}

func (l *layout) fill(int) { l.add(Op{Kind: Newline, N: Fill}) }

// callGap puts arguments below the first one.
func (l *layout) callGap(i int) {
	if i == 0 {
		l.add(Op{Kind: Indent, Flag: true})
		return
	}
	l.add(Op{Kind: Newline, N: Linear})
}

// styledGap puts what stands behind so many arguments as a body.
func (l *layout) styledGap(i, args int) {
	if i == 0 {
		l.add(Op{Kind: Indent, N: argumentIndent})
	}
	switch {
	case i >= args:
		l.add(Op{Kind: Indent, N: bodyIndent})
		l.add(Op{Kind: Newline, N: Linear})
	case i > 0:
		l.add(Op{Kind: Newline, N: Fill})
	}
}

// array adds the operations of a vector or an array.
func (l *layout) array(f api.Form, at place) {
	switch {
	case !l.options.Array && f.Kind == api.FormVector:
		l.leaf(api.Form{Kind: api.FormVector})
	case !l.options.Array: // what is printed does not depend on the dimensions
		l.leaf(api.Form{Kind: api.FormArray, Text: "0 0"})
	case f.Kind == api.FormVector:
		l.list("", "#(", at, l.fill, l.elements(len(f.Kids), l.nodes(f.Kids, at), nil))
	case f.Text == "":
		l.text("#0A")
		l.node(f.Kids[0], at)
	default:
		dimensions := notation.Dimensions(f.Text)
		l.contents("#"+strconv.Itoa(len(dimensions))+"A", f.Kids, dimensions, at)
	}
}

// contents adds the elements of an array in nested lists.
func (l *layout) contents(front string, elements []api.Form, dimensions []int, at place) {
	if len(dimensions) == 0 {
		l.node(elements[0], at)
		return
	}
	size := len(elements) / max(dimensions[0], 1)
	part := func(i int) {
		l.contents("", elements[i*size:(i+1)*size], dimensions[1:], at.inside())
	}
	l.list(front, "(", at, l.fill, l.elements(dimensions[0], part, nil))
}
