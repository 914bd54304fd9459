package reader

import (
	"strings"
	"unicode/utf8"

	"commonform/api"
	"commonform/forms"
	"commonform/number"
	"commonform/token"
	"commonform/tree"
)

const keyword = "KEYWORD"

// failure is what reading panics with: an error and its place.
type failure struct {
	place int
	code  api.Errno
}

// macro reads what a macro character begins, from behind this character on. The zero form says that what was read is left out.
type macro func(r *reading, from int) api.Form

// reading goes through a text.
type reading struct {
	options    Options
	text       string
	at         int
	depth      int // how many forms were begun, and have not ended
	level      int // how many backquotes are open
	pack       string
	labels     []int // those that were defined so far
	references []Reference
	macros     map[rune]macro
	dispatches map[rune]dispatch
}

func newReading(o Options, s string, at int) *reading {
	return &reading{options: o, text: s, at: at, pack: o.Package, macros: macros(), dispatches: dispatches()}
}

// macros returns the macro characters; comments are left out ahead of them.
func macros() map[rune]macro {
	return map[rune]macro{
		'"':  (*reading).quotedText,
		'\'': (*reading).quote,
		'(':  (*reading).list,
		')':  (*reading).close,
		'`':  (*reading).backquote,
		',':  (*reading).comma,
		'#':  (*reading).hash,
	}
}

// fail ends the reading with an error.
func (r *reading) fail(place int, e api.Errno) {
	if e == api.ErrEnd {
		place = len(r.text)
	}
	panic(failure{place: place, code: e})
}

// result reads a form at the outermost level.
func (r *reading) result() Result {
	for {
		r.blank()
		from := r.at
		if r.ended() {
			r.fail(from, api.ErrNone)
		}
		f := r.begin()
		if isLeftOut(f) {
			continue
		}
		if tooLarge(f) {
			r.fail(from, api.ErrSize)
		}
		return Result{Form: tree.Copy(f), References: r.references, From: from, To: r.at}
	}
}

func isLeftOut(f api.Form) bool { return f.Kind == 0 }

// form reads the next form, whatever is left out ahead of it.
func (r *reading) form() api.Form {
	for {
		r.blank()
		if r.ended() {
			r.fail(r.at, api.ErrEnd)
		}
		if f := r.begin(); !isLeftOut(f) {
			return f
		}
	}
}

// begin reads the form that begins here, or what is left out.
func (r *reading) begin() api.Form {
	from := r.at
	if r.depth == api.MaxDepth {
		r.fail(from, api.ErrSize)
	}
	r.depth++
	var f api.Form
	switch r.kind() {
	case token.Invalid:
		r.fail(from, token.ErrInvalid)
	case token.Constituent, token.Single, token.Multiple:
		f = r.word()
	default:
		read, ok := r.macros[r.take()]
		if !ok {
			r.fail(from, ErrMacro)
		}
		f = read(r, from)
	}
	r.depth--
	return f
}

func (r *reading) ended() bool { return r.at == len(r.text) }

// next returns the next character; there has to be one.
func (r *reading) next() rune {
	c, _ := utf8.DecodeRuneInString(r.text[r.at:])
	return c
}

// take passes the next character.
func (r *reading) take() rune {
	if r.ended() {
		r.fail(r.at, api.ErrEnd)
	}
	c, size := utf8.DecodeRuneInString(r.text[r.at:])
	r.at += size
	return c
}

// kind returns the kind of the next character.
func (r *reading) kind() int { return r.kindOf(r.next()) }

func (r *reading) kindOf(c rune) int {
	kind, _ := token.Kind(r.options.Table, c)
	return kind
}

// isMacro reports whether the next character is this one, and a macro character.
func (r *reading) isMacro(c rune) bool {
	if r.ended() || r.next() != c {
		return false
	}
	kind := r.kind()
	return kind == token.Terminating || kind == token.Nonterminating
}

// blank passes white characters and comments.
func (r *reading) blank() {
skip:
	for !r.ended() {
		switch {
		case r.kind() == token.White:
			r.take()
		case r.isMacro(';'):
			r.line()
		case r.isMacro('#') && strings.HasPrefix(r.text[r.at:], "#|"):
			r.comment()
		default:
			break skip
		}
	}
}

// line passes a comment up to the end of the line.
func (r *reading) line() {
	length := strings.IndexByte(r.text[r.at:], '\n')
	if length < 0 {
		length = len(r.text) - r.at
	}
	r.at += length
}

// comment passes a comment between brackets, with those in it.
func (r *reading) comment() {
	open := 0
	for !r.ended() {
		rest := r.text[r.at:]
		switch {
		case strings.HasPrefix(rest, "#|"):
			open++
			r.at += 2
		case strings.HasPrefix(rest, "|#"):
			open--
			r.at += 2
		default:
			r.take()
		}
		if open == 0 {
			return
		}
	}
	r.fail(r.at, api.ErrEnd)
}

// word reads a number or a symbol.
func (r *reading) word() api.Form {
	from := r.at
	x := r.token(from)
	if !x.Escapes {
		f, e := number.Read(token.Text(x), r.options.Base, r.options.Double)
		if e == api.OK {
			return f
		}
		if e != api.ErrForm {
			r.fail(from, e)
		}
	}
	name, e := token.Split(x)
	if e != api.OK {
		r.fail(from, e)
	}
	return r.symbol(name, from)
}

// token takes the token that begins here; its errors have another place.
func (r *reading) token(place int) token.Token {
	x, end, e := token.Next(r.options.Table, r.text, r.at)
	if e != api.OK {
		r.fail(place, e)
	}
	r.at = end
	return x
}

// symbol returns the symbol of a name that was written at a place.
func (r *reading) symbol(name token.Name, at int) api.Form {
	home := name.Package
	switch name.Kind {
	case token.Symbol:
		home = r.pack
	case token.Keyword:
		home = keyword
	}
	r.references = append(r.references, Reference{Home: home, Name: name.Name, External: name.Kind == token.External, At: at})
	return forms.Symbol(home, name.Name)
}

// mark tells which labels and symbols were met so far.
type mark struct{ labels, references int }

func (r *reading) mark() mark { return mark{labels: len(r.labels), references: len(r.references)} }

// forget takes back the labels and symbols that were met since.
func (r *reading) forget(m mark) {
	r.labels = r.labels[:m.labels]
	r.references = r.references[:m.references]
}
