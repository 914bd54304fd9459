package format

import (
	"strconv"
	"strings"

	"commonform/api"
)

// Kinds of parameters.
const (
	emptyParameter = iota
	numberParameter
	byteParameter
	takenParameter // v: an argument says what it is
	leftParameter  // #: the number of arguments that are left
)

const (
	maxParameterDigits = 9
	maxNesting         = 20
	newline            = '\n'
)

// parameter is what stands ahead of a directive's signs.
type parameter struct {
	kind   int
	number int
	char   byte
}

// directive is a directive, or a text, which stands for itself.
type directive struct {
	char       byte // 0 for a text
	text       string
	parameters []parameter
	colon, at  bool
	parts      [][]directive // of a bracket
	otherwise  bool          // whether the last ~; has a colon
	once       bool          // whether ~} has a colon
}

// read reads a control string, or returns its error.
func read(control string) (block []directive, e api.Errno) {
	if len(control) > api.MaxSource {
		return nil, api.ErrSize
	}
	defer func() {
		if failed, ok := recover().(failure); ok {
			block, e = nil, failed.code
		}
	}()
	r := reading{control: control}
	block, end := r.block(surroundings{})
	if end.char != 0 {
		fail(api.ErrForm)
	}
	return block, api.OK
}

// surroundings are the brackets in which directives stand.
type surroundings struct {
	depth int
	lists bool // whether the innermost ~{ or ~< is a ~{ with colon
}

// reading reads one control string.
type reading struct {
	control string
	at      int
}

// next returns the character that comes next, and passes it.
func (r *reading) next() byte {
	if r.at == len(r.control) {
		fail(api.ErrForm)
	}
	r.at++
	return r.control[r.at-1]
}

// passes passes a character, if it comes next.
func (r *reading) passes(c byte) bool {
	is := r.at < len(r.control) && r.control[r.at] == c
	if is {
		r.at++
	}
	return is
}

// passed returns the longest text of some characters that comes next, and passes it.
func (r *reading) passed(characters string) string {
	rest := r.control[r.at:]
	text := rest[:len(rest)-len(strings.TrimLeft(rest, characters))]
	r.at += len(text)
	return text
}

// block reads directives up to a closing bracket or a ~;, which it returns, or up to the end, for which it returns a text.
func (r *reading) block(in surroundings) ([]directive, directive) {
	var block []directive
	for r.at < len(r.control) {
		if text, _, _ := strings.Cut(r.control[r.at:], "~"); text != "" {
			block = append(block, directive{text: text})
			r.at += len(text)
			continue
		}
		d := r.directive()
		if isEnd(d.char) {
			return block, d
		}
		if d.char == '^' && d.colon && !in.lists {
			fail(api.ErrForm)
		}
		if closer := closerOf(d.char); closer != 0 {
			r.bracket(&d, closer, in)
		}
		block = append(block, d)
	}
	return block, directive{}
}

// directive reads a directive without what a bracket has behind it.
func (r *reading) directive() directive {
	r.next() // ~
	d := directive{parameters: r.parameters()}
	for {
		c := r.next()
		if c == ':' && !d.colon {
			d.colon = true
		} else if c == '@' && !d.at {
			d.at = true
		} else {
			d.char = greatLetter(c)
			break
		}
	}
	most, ok := parametersOf(d.char)
	if !ok || len(d.parameters) > most || forbidden(d) {
		fail(api.ErrForm)
	}
	if d.char == newline {
		d.text = r.line(d)
	}
	return d
}

// line passes what a ~ at the end of a line leaves out, and returns what is left of it.
func (r *reading) line(d directive) string {
	text := ""
	if d.at {
		text = "\n"
	}
	if !d.colon {
		r.passed(" \t")
	}
	return text
}

func (r *reading) parameters() []parameter {
	p, given := r.parameter()
	if !r.passes(',') {
		if !given {
			return nil
		}
		return []parameter{p}
	}
	all := []parameter{p}
	for {
		p, _ := r.parameter()
		all = append(all, p)
		if !r.passes(',') {
			return all
		}
	}
}

// parameter reads a parameter, and returns whether it is not empty.
func (r *reading) parameter() (parameter, bool) {
	switch {
	case r.passes('v'), r.passes('V'):
		return parameter{kind: takenParameter}, true
	case r.passes('#'):
		return parameter{kind: leftParameter}, true
	case r.passes('\''):
		return parameter{kind: byteParameter, char: r.next()}, true
	}
	sign := ""
	if r.passes('-') {
		sign = "-"
	} else if r.passes('+') {
		sign = "+"
	}
	digits := r.passed("0123456789")
	if digits == "" && sign == "" {
		return parameter{}, false
	}
	if digits == "" || len(digits) > maxParameterDigits {
		fail(api.ErrForm)
	}
	n, _ := strconv.Atoi(sign + digits)
	return parameter{kind: numberParameter, number: n}, true
}

// bracket reads what stands behind an opening bracket, up to its closing one.
func (r *reading) bracket(d *directive, closer byte, in surroundings) {
	in.depth++
	if in.depth > maxNesting {
		fail(api.ErrForm)
	}
	switch d.char {
	case '{':
		in.lists = d.colon
	case '<':
		in.lists = false
	}
	for {
		part, end := r.block(in)
		d.parts = append(d.parts, part)
		if end.char == closer {
			d.once = end.colon
			break
		}
		if end.char != ';' || d.char != '[' && d.char != '<' || d.otherwise {
			fail(api.ErrForm)
		}
		d.otherwise = end.colon
	}
	if !fits(*d) {
		fail(api.ErrForm)
	}
}

// fits reports whether a bracket may have its parts, and a ~; with a colon.
func fits(d directive) bool {
	if d.char != '[' {
		return !d.otherwise
	}
	switch {
	case d.colon && d.at:
		return false
	case d.colon:
		return len(d.parts) == 2 && !d.otherwise
	case d.at:
		return len(d.parts) == 1
	}
	return true
}

// forbidden reports whether a directive has signs that it must not have.
func forbidden(d directive) bool {
	return d.char == 'T' && d.colon || d.char == '*' && d.colon && d.at
}

func isEnd(c byte) bool { return strings.IndexByte(")]}>;", c) >= 0 }

// closerOf returns the closing bracket of an opening one, and 0 for all else.
func closerOf(c byte) byte {
	switch c {
	case '(':
		return ')'
	case '[':
		return ']'
	case '{':
		return '}'
	case '<':
		return '>'
	}
	return 0
}

// parametersOf returns how many parameters a directive may have, if there is such a directive.
func parametersOf(c byte) (int, bool) {
	switch c {
	case 'C', 'P', newline, '?', '(', ')', ']', '}', '>', ';':
		return 0, true
	case '%', '|', '~', '&', '*', '[', '{':
		return 1, true
	case 'T':
		return 2, true
	case '^':
		return 3, true
	case 'A', 'S', 'D', 'B', 'O', 'X', '$', '<':
		return 4, true
	case 'R', 'F':
		return 5, true
	}
	return 0, false
}
