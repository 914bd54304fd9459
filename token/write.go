package token

import (
	"strings"

	"commonform/api"
)

const (
	leastBase    = 2
	greatestBase = 36
)

func isBase(base int) bool { return base >= leastBase && base <= greatestBase }

// Potential reports whether a text may be a number.
func Potential(s string, base int) (bool, api.Errno) {
	if e := checkText(s); e != api.OK {
		return false, e
	}
	if !isBase(base) {
		return false, api.ErrArg
	}
	return isPotential(s, base), api.OK
}

func isPotential(s string, base int) bool {
	digits, letter := 0, false // letter: whether the character ahead is a letter that is no digit
	for _, c := range s {
		digit := isDigit(c, base)
		loose := isLetter(c) && !digit
		switch {
		case digit:
			digits++
		case loose && letter:
			return false
		case !loose && !strings.ContainsRune("+-/.^_", c):
			return false
		}
		letter = loose
	}
	if digits == 0 {
		return false
	}
	// all characters are single bytes here
	first, last := rune(s[0]), s[len(s)-1]
	return (isDigit(first, base) || strings.ContainsRune("+-.^_", first)) && last != '+' && last != '-'
}

// isDigit reports whether a character is a digit; those from 0 to 9 are digits in every base.
func isDigit(c rune, base int) bool {
	if isGreat(c) {
		c += betweenCases
	}
	return c >= '0' && c <= '9' || isSmall(c) && int(c-'a')+10 < base
}

// Back returns a name with its letters as they are to be read.
func Back(t Table, name string) (string, api.Errno) {
	if e := Check(t); e != api.OK {
		return "", e
	}
	x, e := Plain(name)
	if e != api.OK {
		return "", e
	}
	x.changeCase(opposite(t.Case))
	return string(x.Chars), api.OK
}

// Escaped returns the text of which a token with given characters is read.
func Escaped(t Table, name string, base int) (string, api.Errno) {
	text, e := Back(t, name)
	if e != api.OK {
		return "", e
	}
	if !isBase(base) {
		return "", api.ErrArg
	}
	if readsAlone(t, text, name, base) {
		return text, api.OK
	}
	return barred(t, name)
}

// readsAlone reports whether a text without bars is read as a name and as nothing else.
func readsAlone(t Table, text, name string, base int) bool {
	x, end, e := Next(t, text, 0)
	if e != api.OK || end != len(text) || string(x.Chars) != name {
		return false
	}
	return len(x.markers()) == 0 && Dots(x) == 0 && !x.Escapes && !isPotential(name, base)
}

// barred returns a name between bars.
func barred(t Table, name string) (string, api.Errno) {
	bar, there := t.least(Multiple)
	if !there {
		return "", api.ErrNone
	}
	single, there := t.least(Single)
	var text strings.Builder
	text.WriteRune(bar)
	for _, c := range name {
		if kind := t.kind(c); kind == Single || kind == Multiple {
			if !there {
				return "", api.ErrNone
			}
			text.WriteRune(single)
		}
		text.WriteRune(c)
	}
	text.WriteRune(bar)
	return text.String(), api.OK
}

// Written returns the text of which a symbol is read.
func Written(t Table, n Name, base int) (string, api.Errno) {
	if e := Check(t); e != api.OK {
		return "", e
	}
	if !n.right() {
		return "", api.ErrArg
	}
	text, e := n.join(func(name string) (string, api.Errno) { return Escaped(t, name, base) })
	if e != api.OK {
		return "", e
	}
	if !t.marks(n.Kind) {
		return "", api.ErrNone
	}
	if n.isReadFrom(t, text) {
		return text, api.OK
	}
	return n.join(func(name string) (string, api.Errno) { return barred(t, name) })
}

// right reports whether a symbol can be written so.
func (n Name) right() bool {
	switch n.Kind {
	case Symbol, Keyword:
		return n.Package == ""
	case External, Internal:
		return n.Package != "" && n.Name != ""
	}
	return false
}

// marks reports whether the package marker can stand where a kind of names has it.
func (t Table) marks(kind int) bool {
	switch t.kind(marker) {
	case Constituent:
		return true
	case Nonterminating: // no token begins with it
		return kind != Keyword
	}
	return kind == Symbol
}

// join returns the text of a symbol whose names are written by a function.
func (n Name) join(write func(name string) (string, api.Errno)) (string, api.Errno) {
	front := ""
	switch n.Kind {
	case Keyword:
		front = ":"
	case External, Internal:
		pack, e := write(n.Package)
		if e != api.OK {
			return "", e
		}
		front = pack + ":"
		if n.Kind == Internal {
			front += ":"
		}
	}
	name, e := write(n.Name)
	if e != api.OK {
		return "", e
	}
	return front + name, api.OK
}

// isReadFrom reports whether the symbol is what a text is read as.
func (n Name) isReadFrom(t Table, text string) bool {
	x, end, e := Next(t, text, 0)
	if e != api.OK || end != len(text) {
		return false
	}
	read, e := Split(x)
	return e == api.OK && read == n
}
