package core

import (
	"strconv"
	"strings"

	"commonform/api"
)

const (
	maxText   = 20000 // bytes of a text that is parsed
	maxDigits = 5     // of a number, with its sign: all others are too large
)

// Parse returns the core tree with a text.
func Parse(s string) (made api.Core, e api.Errno) {
	if len(s) > maxText {
		return api.Core{}, api.ErrSize
	}
	defer func() {
		if failed, ok := recover().(failure); ok {
			made, e = api.Core{}, failed.code
		}
	}()
	p := parser{text: s}
	made = p.node()
	// what Show writes in another way shows in its text
	if text, _ := Show(made); text != s {
		return api.Core{}, api.ErrForm
	}
	return made, api.OK
}

// parser reads a text. It panics where it cannot.
type parser struct {
	text string
	at   int
}

// peek returns the next byte, 0 at the end.
func (p *parser) peek() byte {
	if p.at == len(p.text) {
		return 0
	}
	return p.text[p.at]
}

// accept passes the next byte, if it is this one.
func (p *parser) accept(b byte) bool {
	if p.peek() != b || p.at == len(p.text) {
		return false
	}
	p.at++
	return true
}

func (p *parser) expect(b byte) { want(p.accept(b), api.ErrForm) }

// node reads a node with its kids.
func (p *parser) node() api.Core {
	p.expect('(')
	c := api.Core{Op: opNamed(p.name())}
	s, ok := shapeOf(c.Op)
	want(ok, api.ErrForm)
	p.fields(s, &c)
kids:
	for {
		switch {
		case p.accept(')'):
			break kids
		case p.accept(' '):
			c.Kids = append(c.Kids, p.node())
		default:
			fail(api.ErrForm)
		}
	}
	return c
}

// name reads small letters.
func (p *parser) name() string {
	from := p.at
	for p.peek() >= 'a' && p.peek() <= 'z' {
		p.at++
	}
	return p.text[from:p.at]
}

// opNamed returns the op with a name, 0 if there is none.
func opNamed(name string) int {
	for op := range shapes {
		if name != "" && shapes[op].name == name {
			return op
		}
	}
	return 0
}

// fields reads what stands ahead of the kids.
func (p *parser) fields(s shape, c *api.Core) {
	if s.has(fieldN) {
		p.expect(' ')
		c.N = p.number()
	}
	if s.has(fieldVars) {
		p.list(func() { c.Vars = append(c.Vars, p.number()) })
	}
	if s.has(fieldSyms) {
		p.list(func() { c.Syms = append(c.Syms, p.form()) })
	}
	for s.has(fieldPars) && strings.HasPrefix(p.text[p.at:], " {") {
		p.at++
		c.Pars = append(c.Pars, p.parameter())
	}
	if s.has(fieldData) {
		p.expect(' ')
		c.Data = p.form()
	}
}

// list reads elements between square brackets.
func (p *parser) list(element func()) {
	p.expect(' ')
	p.expect('[')
	if p.accept(']') {
		return
	}
	for {
		element()
		if p.accept(']') {
			return
		}
		p.expect(' ')
	}
}

func (p *parser) parameter() api.Param {
	var x api.Param
	p.expect('{')
	for _, n := range []*int{&x.Kind, &x.Var, &x.Given} {
		*n = p.number()
		p.expect(' ')
	}
	if !p.accept(noKey[0]) {
		x.Key = p.form()
	}
	p.expect('}')
	return x
}

// number reads an integer.
func (p *parser) number() int {
	from := p.at
	p.accept('-')
	for isDigit(p.peek()) {
		p.at++
	}
	want(p.at-from <= maxDigits, api.ErrForm)
	n, err := strconv.Atoi(p.text[from:p.at])
	want(err == nil, api.ErrForm)
	return n
}

// form reads a form.
func (p *parser) form() api.Form {
	var f api.Form
	f.Kind = p.number()
	p.expect(':')
	f.Home = p.word()
	p.expect(':')
	f.Text = p.word()
	if !p.accept('(') {
		return f
	}
	for {
		f.Kids = append(f.Kids, p.form())
		if p.accept(')') {
			return f
		}
		p.expect(' ')
	}
}

// word reads bytes and escapes.
func (p *parser) word() string {
	var word []byte
bytes:
	for {
		b := p.peek()
		switch {
		case isPlain(b):
			p.at++
		case p.accept(escape):
			b = p.escaped()
		default:
			break bytes
		}
		word = append(word, b)
	}
	return string(word)
}

func (p *parser) escaped() byte {
	want(len(p.text)-p.at >= 2, api.ErrForm)
	digits := p.text[p.at : p.at+2]
	p.at += 2
	n, err := strconv.ParseUint(digits, 16, 8)
	want(err == nil, api.ErrForm)
	return byte(n)
}
