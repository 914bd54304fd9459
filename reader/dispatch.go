package reader

import (
	"slices"
	"strconv"
	"strings"
	"unicode/utf8"

	"commonform/api"
	"commonform/forms"
	"commonform/number"
	"commonform/token"
)

const (
	noNumber  = -1
	maxDigits = 3 // of the number of a dispatch character
)

// Whether a dispatch character has a number.
const (
	never = iota
	perhaps
	always
)

// sharp is where # stands, and the number behind it.
type sharp struct{ from, n int }

// dispatch is how a dispatch character is read.
type dispatch struct {
	numbered int
	read     func(r *reading, s sharp) api.Form
}

// dispatches returns the dispatch characters; comments are left out ahead of them.
func dispatches() map[rune]dispatch {
	return map[rune]dispatch{
		'\'': {never, (*reading).function},
		'\\': {never, (*reading).character},
		'(':  {perhaps, (*reading).vector},
		'*':  {perhaps, (*reading).bits},
		':':  {never, (*reading).homeless},
		'b':  {never, (*reading).binary},
		'o':  {never, (*reading).octal},
		'x':  {never, (*reading).hexadecimal},
		'r':  {always, (*reading).radix},
		'c':  {never, (*reading).complex},
		'a':  {always, (*reading).array},
		'+':  {never, (*reading).with},
		'-':  {never, (*reading).without},
		'=':  {always, (*reading).label},
		'#':  {always, (*reading).reference},
	}
}

// hash reads what a dispatch character begins.
func (r *reading) hash(from int) api.Form {
	n := r.number(from)
	d, there := r.dispatches[small(r.take())]
	if !there || n == noNumber && d.numbered == always || n != noNumber && d.numbered == never {
		r.fail(from, ErrHash)
	}
	return d.read(r, sharp{from: from, n: n})
}

// number takes the digits behind #.
func (r *reading) number(from int) int {
	begin := r.at
	for !r.ended() && r.next() >= '0' && r.next() <= '9' {
		r.take()
	}
	digits := r.text[begin:r.at]
	if len(digits) > maxDigits {
		r.fail(from, ErrHash)
	}
	n, err := strconv.Atoi(digits)
	if err != nil {
		return noNumber
	}
	return n
}

func (r *reading) function(sharp) api.Form {
	return forms.Call("FUNCTION", []api.Form{r.form()})
}

func (r *reading) character(s sharp) api.Form {
	first := r.take()
	name := string(first) + r.nameEnd(s)
	if utf8.RuneCountInString(name) == 1 {
		return charForm(first)
	}
	c, ok := Character(name)
	if !ok {
		r.fail(s.from, ErrChar)
	}
	return charForm(c)
}

// nameEnd takes the token that continues the name of a character.
func (r *reading) nameEnd(s sharp) string {
	if r.ended() {
		return ""
	}
	switch r.kind() {
	case token.White, token.Terminating, token.Invalid:
		return ""
	}
	// The token may begin with a Nonterminating character, with which Next begins none: so a Constituent one is put in front. There is room for it, as # stands ahead.
	front := string(r.constituent())
	table := token.Table{Entries: r.options.Table.Entries, Case: token.Preserve}
	x, end, e := token.Next(table, front+r.text[r.at:], 0)
	if e != api.OK {
		r.fail(s.from, e)
	}
	r.at += end - len(front)
	return strings.TrimPrefix(token.Text(x), front)
}

// constituent returns a character that is of this kind; a readtable has fewer entries than there are digits and letters.
func (r *reading) constituent() rune {
	c := '0'
	for r.kindOf(c) != token.Constituent {
		c++
	}
	return c
}

func (r *reading) vector(s sharp) api.Form {
	l := r.contents(false)
	missing := r.missing(s, len(l.items))
	if missing > 0 && l.labelled {
		r.fail(s.from, ErrShape)
	}
	for range missing {
		l.items = append(l.items, l.items[len(l.items)-1])
	}
	return api.Form{Kind: api.FormVector, Kids: l.items}
}

// missing returns how often the last one of so many elements is to be repeated.
func (r *reading) missing(s sharp, count int) int {
	if s.n == noNumber {
		return 0
	}
	if count > s.n || count == 0 && s.n > 0 {
		r.fail(s.from, ErrShape)
	}
	return s.n - count
}

// follow takes the token that begins here; without one it has no characters.
func (r *reading) follow(s sharp) token.Token {
	if !r.ended() {
		switch r.kind() {
		case token.Constituent, token.Single, token.Multiple:
			return r.token(s.from)
		}
	}
	return token.Token{}
}

func (r *reading) bits(s sharp) api.Form {
	x := r.follow(s)
	digits := token.Text(x)
	if x.Escapes || strings.Trim(digits, "01") != "" {
		r.fail(s.from, api.ErrForm)
	}
	if missing := r.missing(s, len(digits)); missing > 0 {
		digits += strings.Repeat(digits[len(digits)-1:], missing)
	}
	return api.Form{Kind: api.FormBits, Text: digits}
}

func (r *reading) homeless(s sharp) api.Form {
	x := r.follow(s)
	for i, c := range x.Chars {
		if c == ':' && !x.Escaped[i] {
			r.fail(s.from, token.ErrMarker)
		}
	}
	return forms.Symbol("", token.Text(x))
}

func (r *reading) binary(s sharp) api.Form { return r.rational(s, 2) }

func (r *reading) octal(s sharp) api.Form { return r.rational(s, 8) }

func (r *reading) hexadecimal(s sharp) api.Form { return r.rational(s, 16) }

func (r *reading) radix(s sharp) api.Form {
	if !isBase(s.n) {
		r.fail(s.from, ErrHash)
	}
	return r.rational(s, s.n)
}

func (r *reading) rational(s sharp, base int) api.Form {
	x := r.follow(s)
	if x.Escapes {
		r.fail(s.from, api.ErrForm)
	}
	f, e := number.Read(token.Text(x), base, r.options.Double)
	if e == api.OK && f.Kind != api.FormInt && f.Kind != api.FormRatio {
		e = api.ErrForm
	}
	if e != api.OK {
		r.fail(s.from, e)
	}
	return f
}

func (r *reading) complex(s sharp) api.Form {
	parts, _ := forms.Items(r.form())
	if len(parts) != 2 || !isReal(parts[0]) || !isReal(parts[1]) {
		r.fail(s.from, api.ErrForm)
	}
	f, e := number.Complex(parts[0], parts[1])
	if e != api.OK {
		r.fail(s.from, e)
	}
	return f
}

func isReal(f api.Form) bool { return forms.Number(f) && f.Kind != api.FormComplex }

func (r *reading) array(s sharp) api.Form {
	f, e := Array(s.n, r.form())
	if e != api.OK {
		r.fail(s.from, e)
	}
	return f
}

func (r *reading) with(s sharp) api.Form { return r.conditional(s, true) }

func (r *reading) without(s sharp) api.Form { return r.conditional(s, false) }

// conditional reads an expression of features and a form; the form stays if the expression is what is wanted.
func (r *reading) conditional(s sharp, wanted bool) api.Form {
	known, pack := r.mark(), r.pack
	r.pack = keyword
	expression := r.form()
	r.pack = pack
	is, e := Feature(expression, r.options.Features)
	if e != api.OK {
		r.fail(s.from, e)
	}
	r.forget(known)
	f := r.form()
	if is == wanted {
		return f
	}
	r.forget(known)
	return api.Form{}
}

func (r *reading) label(s sharp) api.Form {
	if slices.Contains(r.labels, s.n) {
		r.fail(s.from, api.ErrTwice)
	}
	r.labels = append(r.labels, s.n)
	f := r.form()
	if f.Kind == api.FormRef || f.Kind == api.FormLabel {
		r.fail(s.from, forms.ErrLabel)
	}
	return api.Form{Kind: api.FormLabel, Text: strconv.Itoa(s.n), Kids: []api.Form{f}}
}

func (r *reading) reference(s sharp) api.Form {
	if !slices.Contains(r.labels, s.n) {
		r.fail(s.from, forms.ErrLabel)
	}
	return api.Form{Kind: api.FormRef, Text: strconv.Itoa(s.n)}
}
