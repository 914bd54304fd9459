package token

import (
	"iter"
	"strings"
	"unicode/utf8"

	"commonform/api"
)

// Skip returns where the white characters end.
func Skip(t Table, s string, at int) (int, api.Errno) {
	if e := checkAll(t, s, at); e != api.OK {
		return 0, e
	}
	for place, c := range characters(s, at) {
		if t.kind(c) != White {
			return place, api.OK
		}
	}
	return len(s), api.OK
}

// Next returns the token that begins at a place, and where it ends.
func Next(t Table, s string, at int) (Token, int, api.Errno) {
	if e := checkAll(t, s, at); e != api.OK {
		return Token{}, 0, e
	}
	if at == len(s) {
		return Token{}, 0, api.ErrNone
	}
	first, _ := utf8.DecodeRuneInString(s[at:])
	switch t.kind(first) {
	case White, Terminating, Nonterminating:
		return Token{}, 0, api.ErrArg
	}
	x, end, e := scan(t, s, at)
	if e != api.OK {
		return Token{}, 0, e
	}
	x.changeCase(t.Case)
	return x, end, api.OK
}

// scan takes the characters of a token, with their letters as they stand there.
func scan(t Table, s string, at int) (Token, int, api.Errno) {
	var x Token
	add := func(c rune, escaped bool) {
		x.Chars = append(x.Chars, c)
		x.Escaped = append(x.Escaped, escaped)
	}
	single, bars := false, false // what is open
	escape := func(c rune, kind int) bool {
		switch {
		case single:
			add(c, true)
			single = false
		case kind == Single:
			single, x.Escapes = true, true
		case kind == Multiple:
			bars, x.Escapes = !bars, true
		case bars:
			add(c, true)
		default:
			return false
		}
		return true
	}
	end := len(s)
scan:
	for place, c := range characters(s, at) {
		kind := t.kind(c)
		if escape(c, kind) {
			continue
		}
		switch kind {
		case White, Terminating:
			end = place
			break scan
		case Invalid:
			return Token{}, 0, ErrInvalid
		}
		add(c, false)
	}
	if single || bars {
		return Token{}, 0, api.ErrEnd
	}
	return x, end, api.OK
}

// Plain returns the token whose characters are those of a text, none escaped.
func Plain(s string) (Token, api.Errno) {
	if e := checkText(s); e != api.OK {
		return Token{}, e
	}
	chars := []rune(s)
	return Token{Chars: chars, Escaped: make([]bool, len(chars))}, api.OK
}

// Text returns the characters of a token.
func Text(x Token) string {
	if !x.right() {
		return ""
	}
	return string(x.Chars)
}

// Dots returns how many dots a token consists of; 0 if it is something else.
func Dots(x Token) int {
	if x.Escapes || !x.right() {
		return 0
	}
	for _, c := range x.Chars {
		if c != '.' {
			return 0
		}
	}
	return len(x.Chars)
}

// Where returns the place of a byte of a text.
func Where(s string, at int) (Place, api.Errno) {
	if e := checkText(s); e != api.OK {
		return Place{}, e
	}
	if !isPlace(s, at) {
		return Place{}, api.ErrArg
	}
	ahead := s[:at]
	line := ahead[strings.LastIndexByte(ahead, '\n')+1:]
	return Place{Line: strings.Count(ahead, "\n") + 1, Column: utf8.RuneCountInString(line) + 1}, api.OK
}

// right reports whether a token is one that can have been read.
func (x Token) right() bool {
	if len(x.Escaped) != len(x.Chars) || len(x.Chars) > api.MaxSource {
		return false
	}
	for i, c := range x.Chars {
		if !utf8.ValidRune(c) || x.Escaped[i] && !x.Escapes {
			return false
		}
	}
	return true
}

// checkAll returns the error of what the functions that read take.
func checkAll(t Table, s string, at int) api.Errno {
	if e := Check(t); e != api.OK {
		return e
	}
	if e := checkText(s); e != api.OK {
		return e
	}
	if !isPlace(s, at) {
		return api.ErrArg
	}
	return api.OK
}

// checkText returns the error of a text.
func checkText(s string) api.Errno {
	switch {
	case len(s) > api.MaxSource:
		return api.ErrSize
	case !utf8.ValidString(s):
		return api.ErrForm
	}
	return api.OK
}

func isPlace(s string, at int) bool {
	return at == len(s) || at >= 0 && at < len(s) && utf8.RuneStart(s[at])
}

// characters yields the places and the characters of a text from a place on.
func characters(s string, at int) iter.Seq2[int, rune] {
	return func(yield func(int, rune) bool) {
		for i, c := range s[at:] {
			if !yield(at+i, c) {
				return
			}
		}
	}
}
