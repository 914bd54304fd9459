package printer

import (
	"iter"
	"strconv"
	"strings"
	"unicode/utf8"

	"commonform/api"
	"commonform/forms"
	"commonform/notation"
	"commonform/number"
	"commonform/token"
)

// Print returns the text of a form.
func Print(o Options, f api.Form) (text string, e api.Errno) {
	f, e = prepare(o, f)
	if e != api.OK {
		return "", e
	}
	defer func() {
		if failed, ok := recover().(failure); ok {
			text, e = "", failed.code
		}
	}()
	p := printing{options: o}
	p.node(f, place{})
	return p.text.String(), api.OK
}

// prepare returns what is to be written for a form.
func prepare(o Options, f api.Form) (api.Form, api.Errno) {
	if e := Check(o); e != api.OK {
		return api.Form{}, e
	}
	if e := forms.Check(f); e != api.OK {
		return api.Form{}, e
	}
	if o.Readable && !isReadable(o.Table) {
		return api.Form{}, ErrReadable
	}
	if o.Circle {
		return forms.Normal(f)
	}
	return forms.Plain(f)
}

// isReadable reports whether all characters that are written without an escape mean with a readtable what they usually mean.
func isReadable(t token.Table) bool {
	for _, entry := range t.Entries {
		c := entry.Char
		switch token.Standard(c) {
		case token.Terminating, token.Nonterminating, token.White:
			return false
		}
		if c >= 'a' && c <= 'z' || c >= 'A' && c <= 'Z' || c >= '0' && c <= '9' || strings.ContainsRune(".:+-/", c) {
			return false
		}
	}
	return true
}

// failure is what writing panics with.
type failure struct{ code api.Errno }

// place is where a node stands: in how many lists, and in how many backquotes.
type place struct{ level, depth int }

func (p place) inside() place {
	p.level++
	return p
}

// printing writes one form.
type printing struct {
	options Options
	text    strings.Builder
	comma   bool // whether a comma alone was written last
}

// write appends a text, or what a function returned instead.
func (p *printing) write(text string, e api.Errno) {
	if e != api.OK {
		panic(failure{code: e})
	}
	if text == "" {
		return
	}
	if p.comma && text[0] == '@' { // with the comma it would be another abbreviation
		text = " " + text
	}
	p.comma = false
	if len(text) > maxText-p.text.Len() {
		panic(failure{code: api.ErrLarge})
	}
	p.text.WriteString(text)
}

// add appends characters of the printer's own.
func (p *printing) add(text string) { p.write(text, api.OK) }

// node writes what is at a place.
func (p *printing) node(f api.Form, at place) {
	o := p.options
written:
	switch f.Kind {
	case api.FormSymbol:
		p.write(o.symbol(f))
	case api.FormChar:
		c, _ := utf8.DecodeRuneInString(f.Text)
		p.add(o.character(c))
	case api.FormString:
		p.write(o.quoted(f.Text))
	case api.FormLabel:
		p.add("#" + f.Text + "=")
		p.node(f.Kids[0], at)
	case api.FormRef:
		p.add("#" + f.Text + "#")
	case api.FormCons:
		p.cons(f, at)
	case api.FormBits, api.FormVector, api.FormArray:
		if !o.Array {
			p.hidden(f.Kind)
			break written
		}
		p.array(f, at)
	default:
		p.write(number.Print(f, o.Base, o.Radix, o.Double))
	}
}

// hidden writes what stands for an array that is not written whole.
func (p *printing) hidden(kind int) {
	if p.options.Readable {
		panic(failure{code: ErrReadable})
	}
	switch kind {
	case api.FormBits:
		p.add("#<BIT-VECTOR>")
	case api.FormVector:
		p.add("#<VECTOR>")
	default:
		p.add("#<ARRAY>")
	}
}

func (p *printing) cons(f api.Form, at place) {
	if p.options.Abbrev {
		if front, depth := notation.Front(f, at.depth); front != "" {
			p.add(front)
			p.comma = front == notation.CommaText
			p.node(f.Kids[1], place{level: at.level, depth: depth})
			return
		}
	}
	items, tail := forms.Spread(f)
	p.list("(", at, len(items), func(i int) { p.node(items[i], at.inside()) }, func() {
		if !forms.IsNil(tail) {
			p.add(" . ")
			p.node(tail, at.inside())
		}
	})
}

// list writes elements between brackets, as far as the limits let it; behind the last one stands a tail.
func (p *printing) list(open string, at place, count int, element func(i int), tail func()) {
	o := p.options
	if at.level == o.Level {
		p.add("#")
		return
	}
	p.add(open)
	for i := range count {
		if i > 0 {
			p.add(" ")
		}
		if i == o.Length {
			p.add("...)")
			return
		}
		element(i)
	}
	tail()
	p.add(")")
}

// array writes a bit vector, a vector or an array whole.
func (p *printing) array(f api.Form, at place) {
	switch f.Kind {
	case api.FormBits:
		p.add("#*" + f.Text)
	case api.FormVector:
		p.list("#(", at, len(f.Kids), func(i int) { p.node(f.Kids[i], at.inside()) }, func() {})
	default:
		dimensions := notation.Dimensions(f.Text)
		if p.options.Readable && losesDimension(dimensions) {
			panic(failure{code: ErrReadable})
		}
		p.add("#" + strconv.Itoa(len(dimensions)) + "A")
		p.contents(f.Kids, dimensions, at)
	}
}

// losesDimension reports whether a dimension cannot be told from the contents, since there are none that show it.
func losesDimension(dimensions []int) bool {
	empty := false
	for _, n := range dimensions {
		if empty && n > 0 {
			return true
		}
		empty = empty || n == 0
	}
	return false
}

// contents writes the elements of an array in nested lists. Each dimension has a function that writes the part that begins with an element, of the parts of the dimension behind it.
func (p *printing) contents(elements []api.Form, dimensions []int, at place) {
	write := func(first int, at place) { p.node(elements[first], at) }
	size := 1
	for count := range backward(dimensions) {
		part, step := write, size
		write = func(first int, at place) {
			p.list("(", at, count, func(i int) { part(first+i*step, at.inside()) }, func() {})
		}
		size *= count
	}
	write(0, at)
}

// backward yields numbers from the last one to the first one.
func backward(l []int) iter.Seq[int] {
	return func(yield func(int) bool) {
		for i := len(l) - 1; i >= 0; i-- {
			if !yield(l[i]) {
				return
			}
		}
	}
}
