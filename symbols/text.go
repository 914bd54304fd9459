package symbols

import (
	"strconv"
	"strings"
)

const nothing = "-" // an empty list, or no home

// Text returns all of a table as a text.
func (t *Table) Text() string {
	if t.isNone() {
		return ""
	}
	var text strings.Builder
	line := func(words ...string) { text.WriteString(strings.Join(words, " ") + "\n") }
	for _, s := range t.symbols {
		home := nothing
		if s.home != "" {
			home = nameText(s.home)
		}
		line("symbol", nameText(s.name), home)
	}
	for _, p := range t.packages {
		internal, external := p.numbers()
		line("package", nameText(p.name), namesText(p.nicknames), namesText(names(p.uses)), numbersText(internal), numbersText(external), numbersText(sorted(p.shadowing)))
	}
	return text.String()
}

// nameText returns the hexadecimal digits of a name's bytes.
func nameText(name string) string {
	const digits = "0123456789abcdef"
	text := []byte{'x'}
	for i := range len(name) {
		text = append(text, digits[name[i]>>4], digits[name[i]&15])
	}
	return string(text)
}

func listText(words []string) string {
	if len(words) == 0 {
		return nothing
	}
	return strings.Join(words, ",")
}

func namesText(l []string) string {
	var words []string
	for _, name := range l {
		words = append(words, nameText(name))
	}
	return listText(words)
}

func numbersText(l []int) string {
	var words []string
	for _, n := range l {
		words = append(words, strconv.Itoa(n))
	}
	return listText(words)
}
