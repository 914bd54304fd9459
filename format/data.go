package format

import (
	"strings"

	"commonform/api"
	"commonform/forms"
	"commonform/printer"
)

const (
	leastRadix    = 2
	greatestRadix = 36
	usualRadix    = 10
	usualInterval = 3
)

// actions returns what performs each directive.
func actions() map[byte]action {
	return map[byte]action{
		'A': (*scene).plain, 'S': (*scene).escaped, 'C': (*scene).character, 'P': (*scene).plural,
		'D': (*scene).decimal, 'B': (*scene).binary, 'O': (*scene).octal, 'X': (*scene).hexadecimal, 'R': (*scene).radix,
		'F': (*scene).fixed, '$': (*scene).money,
		'%': (*scene).lines, '|': (*scene).pages, '~': (*scene).tildes, '&': (*scene).freshLine, newline: (*scene).lineEnd, 'T': (*scene).tabulate,
		'*': (*scene).pass, '?': (*scene).control,
		'(': (*scene).changeCase, '[': (*scene).choose, '{': (*scene).iterate, '<': (*scene).justify, '^': (*scene).end,
	}
}

// printed returns the text of an argument by the printer.
func printed(x api.Form, escape bool) string {
	text, e := printer.Text(x, escape)
	if e != api.OK {
		fail(api.ErrForm)
	}
	return text
}

func (s *scene) plain(d directive) int { return s.datum(d, false) }

func (s *scene) escaped(d directive) int { return s.datum(d, true) }

// datum performs ~A and ~S.
func (s *scene) datum(d directive, escape bool) int {
	p := s.parameters(d)
	width := p.numberOr(0, maxNumber, 0)
	step := p.numberOr(1, maxNumber, 1)
	least := p.numberOr(0, maxNumber, 0)
	pad := p.textOr(" ")
	x := s.args.take()
	text := "()"
	if !d.colon || !forms.IsNil(x) {
		text = printed(x, escape)
	}
	size := len(text) + least
	if width > size {
		size = widened(size, step, width)
	}
	pads := strings.Repeat(pad, size-len(text))
	if d.at {
		s.out.write(pads + text)
	} else {
		s.out.write(text + pads)
	}
	return goesOn
}

// writePadded puts a text out with as many pads ahead of it as make a width.
func (s *scene) writePadded(text string, width int, pad string) int {
	s.out.write(strings.Repeat(pad, max(width-len(text), 0)) + text)
	return goesOn
}

func (s *scene) decimal(d directive) int { return s.digits(d, s.parameters(d), 10) }

func (s *scene) binary(d directive) int { return s.digits(d, s.parameters(d), 2) }

func (s *scene) octal(d directive) int { return s.digits(d, s.parameters(d), 8) }

func (s *scene) hexadecimal(d directive) int { return s.digits(d, s.parameters(d), 16) }

// digits performs a directive for integers in a radix.
func (s *scene) digits(d directive, p *parameters, radix int) int {
	width := p.numberOr(0, maxNumber, 0)
	pad := p.textOr(" ")
	comma := p.textOr(",")
	interval := p.numberOr(1, maxNumber, usualInterval)
	x := s.args.take()
	if x.Kind != api.FormInt {
		return s.writePadded(printed(x, false), width, pad)
	}
	n, ok := integerOf(x)
	if !ok {
		fail(api.ErrType)
	}
	text, _ := n.Text(radix)
	if d.at && n.Sign() >= 0 {
		text = "+" + text
	}
	if d.colon {
		text, _ = Grouped(text, comma, interval)
	}
	return s.writePadded(text, width, pad)
}

// radix performs ~R: in a radix, or in words or Roman numerals.
func (s *scene) radix(d directive) int {
	if len(d.parameters) > 0 {
		p := s.parameters(d)
		radix := p.numberOr(leastRadix, greatestRadix, usualRadix)
		return s.digits(d, p, radix)
	}
	x := s.args.take()
	switch {
	case d.at:
		s.writeOr(Roman(x, d.colon))
	case d.colon:
		s.writeOr(Ordinal(x))
	default:
		s.writeOr(Cardinal(x))
	}
	return goesOn
}

// writeOr puts a text out, or fails with an error.
func (s *scene) writeOr(text string, e api.Errno) {
	if e != api.OK {
		fail(e)
	}
	s.out.write(text)
}

func (s *scene) character(d directive) int {
	x := s.args.take()
	if x.Kind != api.FormChar {
		fail(api.ErrType)
	}
	switch {
	case d.at:
		s.out.write(printed(x, true))
	case d.colon:
		s.out.write(characterName(x.Text))
	default:
		s.out.write(x.Text)
	}
	return goesOn
}

// characterName returns the name of a character that has one, and otherwise the character.
func characterName(text string) string {
	switch text {
	case "\x00":
		return "Null"
	case "\b":
		return "Backspace"
	case "\t":
		return "Tab"
	case "\n":
		return "Newline"
	case "\f":
		return "Page"
	case "\r":
		return "Return"
	case " ":
		return "Space"
	case "\x7f":
		return "Rubout"
	}
	return text
}

func (s *scene) plural(d directive) int {
	if d.colon {
		s.args.move(s.args.at - 1)
	}
	x := s.args.take()
	one := x.Kind == api.FormInt && x.Text == "1"
	switch {
	case d.at && one:
		s.out.write("y")
	case d.at:
		s.out.write("ies")
	case !one:
		s.out.write("s")
	}
	return goesOn
}
