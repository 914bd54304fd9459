package printer

import (
	"slices"
	"strconv"
	"strings"
	"unicode/utf8"

	"commonform/api"
	"commonform/forms"
	"commonform/token"
)

// Symbol returns the text of a symbol.
func Symbol(o Options, f api.Form) (string, api.Errno) {
	if e := Check(o); e != api.OK {
		return "", e
	}
	if f.Kind != api.FormSymbol {
		return "", api.ErrType
	}
	if e := forms.Check(f); e != api.OK {
		return "", e
	}
	return o.symbol(f)
}

// Character returns the text of a character.
func Character(o Options, c rune) (string, api.Errno) {
	if e := Check(o); e != api.OK {
		return "", e
	}
	if !utf8.ValidRune(c) {
		return "", api.ErrArg
	}
	return o.character(c), api.OK
}

// String returns the text of a string.
func String(o Options, s string) (string, api.Errno) {
	if e := Check(o); e != api.OK {
		return "", e
	}
	if !utf8.ValidString(s) {
		return "", api.ErrForm
	}
	text, e := o.quoted(s)
	if e != api.OK {
		return "", e
	}
	return limited(text)
}

// symbol returns the text of a right symbol with right options. Its bytes are not counted, since the texts of layer 6 are short.
func (o Options) symbol(f api.Form) (string, api.Errno) {
	if !o.Escape {
		return token.Back(o.Table, f.Text)
	}
	if f.Home == "" {
		text, e := token.Escaped(o.Table, f.Text, o.Base)
		if e != api.OK {
			return "", e
		}
		return "#:" + text, api.OK
	}
	name := token.Name{Kind: token.Internal, Package: f.Home, Name: f.Text}
	switch {
	case f.Home == "KEYWORD":
		name = token.Name{Kind: token.Keyword, Name: f.Text}
	case f.Home == o.Package, slices.Contains(o.Uses, f.Home):
		name = token.Name{Kind: token.Symbol, Name: f.Text}
	case slices.Contains(o.External, External{Home: f.Home, Name: f.Text}):
		name.Kind = token.External
	}
	return token.Written(o.Table, name, o.Base)
}

func (o Options) character(c rune) string {
	if !o.Escape {
		return string(c)
	}
	return `#\` + characterName(c)
}

// characterName returns the name with which a character is read.
func characterName(c rune) string {
	switch c {
	case 0:
		return "Null"
	case '\b':
		return "Backspace"
	case '\t':
		return "Tab"
	case '\n':
		return "Newline"
	case '\f':
		return "Page"
	case '\r':
		return "Return"
	case ' ':
		return "Space"
	case 127:
		return "Rubout"
	}
	if c < ' ' || c >= 128 && c <= 159 {
		digits := strings.ToUpper(strconv.FormatInt(int64(c), 16))
		return "U" + strings.Repeat("0", 4-len(digits)) + digits
	}
	return string(c)
}

// quoted returns a string between quotation marks, where characters are escaped.
func (o Options) quoted(s string) (string, api.Errno) {
	if !o.Escape {
		return s, api.OK
	}
	single, there := o.single()
	var text strings.Builder
	text.WriteByte('"')
	for _, c := range s {
		if c == '"' || o.isSingle(c) {
			if !there {
				return "", ErrReadable
			}
			text.WriteRune(single)
		}
		text.WriteRune(c)
	}
	text.WriteByte('"')
	return text.String(), api.OK
}

// single returns the Single character with the least code. The entries are in the order of their characters, and none is that of the standard one if this is Single.
func (o Options) single() (rune, bool) {
	const standard = '\\'
	for _, entry := range o.Table.Entries {
		if entry.Kind == token.Single && (entry.Char < standard || !o.isSingle(standard)) {
			return entry.Char, true
		}
	}
	return standard, o.isSingle(standard)
}

func (o Options) isSingle(c rune) bool {
	kind, _ := token.Kind(o.Table, c)
	return kind == token.Single
}
