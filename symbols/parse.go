package symbols

import (
	"slices"
	"strconv"
	"strings"

	"commonform/api"
)

const maxText = 200000 // bytes of a text that is parsed

// Parse returns the table with a text.
func Parse(s string) (*Table, api.Errno) {
	if len(s) > maxText {
		return nil, api.ErrSize
	}
	p := parser{table: &Table{named: map[string]*pack{}}}
	for line := range strings.Lines(s) {
		if !p.line(strings.TrimSuffix(line, "\n")) {
			return nil, api.ErrForm
		}
	}
	// what is written in another way than Text writes it shows in the new text
	if !p.use() || !p.table.isRight() || p.table.Text() != s {
		return nil, api.ErrForm
	}
	return p.table, api.OK
}

// parser makes a table of lines. Its methods report whether these can be read.
type parser struct {
	table *Table
	uses  [][]string // of each package
}

func (p *parser) line(line string) bool {
	words := strings.Split(line, " ")
	switch {
	case words[0] == "symbol" && len(words) == 3:
		return p.symbol(words[1], words[2])
	case words[0] == "package" && len(words) == 7:
		return p.pack(words[1:])
	}
	return false
}

func (p *parser) symbol(nameText, homeText string) bool {
	name, ok := parseName(nameText)
	home := ""
	if ok && homeText != nothing {
		home, ok = parseName(homeText)
	}
	p.table.symbols = append(p.table.symbols, symbol{name: name, home: home})
	return ok
}

func (p *parser) pack(words []string) bool {
	name, ok := parseName(words[0])
	nicknames, areNames := parseList(words[1], parseName)
	uses, areUses := parseList(words[2], parseName)
	if !ok || !areNames || !areUses {
		return false
	}
	made := newPack(name, nicknames, nil)
	for _, name := range append([]string{name}, nicknames...) {
		if p.table.named[name] != nil {
			return false
		}
		p.table.named[name] = made
	}
	p.table.packages = append(p.table.packages, made)
	p.uses = append(p.uses, uses)
	return p.present(made, words[3], words[4], words[5])
}

// present puts symbols into a package.
func (p *parser) present(made *pack, internalText, externalText, shadowingText string) bool {
	internal, ok := parseList(internalText, p.number)
	external, isExternal := parseList(externalText, p.number)
	shadowing, isShadowing := parseList(shadowingText, p.number)
	if !ok || !isExternal || !isShadowing {
		return false
	}
	for _, s := range slices.Concat(internal, external) {
		name := p.table.symbols[s].name
		if _, there := made.present[name]; there {
			return false
		}
		made.present[name] = s
	}
	for _, s := range external {
		made.external[s] = true
	}
	for _, s := range shadowing {
		made.shadowing[s] = true
	}
	return true
}

// use lets packages use others, now that all are known.
func (p *parser) use() bool {
	for i, made := range p.table.packages {
		for _, name := range p.uses[i] {
			used := p.table.named[name]
			if used == nil || used == made || used.name == keyword || slices.Contains(made.uses, used) {
				return false
			}
			made.uses = append(made.uses, used)
		}
	}
	return true
}

// number returns the number of a symbol with a text.
func (p *parser) number(text string) (int, bool) {
	n, err := strconv.Atoi(text)
	return n, err == nil && p.table.isSymbol(n)
}

// parseName returns the name with a text.
func parseName(text string) (string, bool) {
	digits, ok := strings.CutPrefix(text, "x")
	if !ok || len(digits)%2 > 0 || len(digits) > 2*api.MaxName {
		return "", false
	}
	var name []byte
	for i := 0; i < len(digits); i += 2 {
		b, err := strconv.ParseUint(digits[i:i+2], 16, 8)
		if err != nil {
			return "", false
		}
		name = append(name, byte(b))
	}
	return string(name), true
}

// parseList returns the elements of a list whose words are read by a function.
func parseList[E any](text string, parse func(text string) (E, bool)) ([]E, bool) {
	if text == nothing {
		return nil, true
	}
	var l []E
	for word := range strings.SplitSeq(text, ",") {
		element, ok := parse(word)
		if !ok {
			return nil, false
		}
		l = append(l, element)
	}
	return l, true
}

// isRight reports whether a table whose names mean just one package can be one of operations.
func (t *Table) isRight() bool {
	if len(t.symbols) > api.MaxSymbols || len(t.packages) > maxPackages || !t.beginsRight() {
		return false
	}
	for _, p := range t.packages {
		if p.name == "" || !t.hasShadowing(p) || t.hasConflict(p) {
			return false
		}
	}
	for number := range t.symbols {
		if !t.hasHome(number) {
			return false
		}
	}
	return true
}

// hasHome reports whether a symbol is present in its home, if it has one; a nickname is no home.
func (t *Table) hasHome(number int) bool {
	s := t.symbols[number]
	if s.home == "" {
		return true
	}
	home := t.named[s.home]
	return home != nil && home.name == s.home && home.isPresent(s.name, number)
}

// beginsRight reports whether the first packages are those of New.
func (t *Table) beginsRight() bool {
	first := New().packages
	return len(t.packages) >= len(first) && slices.EqualFunc(t.packages[:len(first)], first, func(p, q *pack) bool {
		return p.name == q.name && slices.Equal(p.nicknames, q.nicknames)
	})
}

// hasShadowing reports whether the shadowing symbols of a package are present.
func (t *Table) hasShadowing(p *pack) bool {
	return !slices.ContainsFunc(sorted(p.shadowing), func(s int) bool {
		return !p.isPresent(t.symbols[s].name, s)
	})
}
