package reader

import (
	"strconv"
	"strings"
	"unicode/utf8"

	"commonform/api"
)

const (
	leastCode = 4 // hexadecimal digits behind U
	mostCode  = 6
)

// Character returns the character with a name.
func Character(name string) (rune, bool) {
	name = strings.Map(small, name)
	switch name {
	case "null":
		return 0, true
	case "backspace":
		return '\b', true
	case "tab":
		return '\t', true
	case "newline", "linefeed":
		return '\n', true
	case "page":
		return '\f', true
	case "return":
		return '\r', true
	case "space":
		return ' ', true
	case "rubout":
		return 127, true
	}
	digits, ok := strings.CutPrefix(name, "u")
	if !ok || len(digits) < leastCode || len(digits) > mostCode || strings.Trim(digits, "0123456789abcdef") != "" {
		return 0, false
	}
	code, _ := strconv.ParseInt(digits, 16, 32)
	if !utf8.ValidRune(rune(code)) {
		return 0, false
	}
	return rune(code), true
}

// small returns a letter of ASCII as a small one; other characters have no case here.
func small(c rune) rune {
	if c >= 'A' && c <= 'Z' {
		c += 'a' - 'A'
	}
	return c
}

func charForm(c rune) api.Form { return api.Form{Kind: api.FormChar, Text: string(c)} }
