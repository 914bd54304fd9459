package lambda

import (
	"commonform/api"
	"commonform/forms"
	"commonform/tree"
)

// States of a lambda list that is read: which group it is in.
const (
	atFirst = iota // nothing was read
	inRequired
	inOptional
	behindRest
	inKeys
	behindKeys
	inAux
)

// Parse returns what a lambda list says.
func Parse(list api.Form, macro bool) (List, api.Errno) {
	if e := forms.Check(list); e != api.OK {
		return List{}, e
	}
	p := parser{macro: macro, outer: true}
	if !p.read(list) {
		return List{}, api.ErrForm
	}
	if hasTwins(Variables(p.list)) || hasTwinKeys(p.list) {
		return List{}, api.ErrTwice
	}
	return p.list, api.OK
}

// parser reads one lambda list. Its methods report whether this can be read.
type parser struct {
	macro, outer bool // outer: it is no pattern
	left         []api.Form
	state        int
	environment  bool // there was one
	list         List
}

func (p *parser) read(list api.Form) bool {
	elements, tail := forms.Spread(list)
	if !isList(list) {
		return false
	}
	p.left = elements
	for len(p.left) > 0 {
		if !p.element(p.take()) {
			return false
		}
	}
	if forms.IsNil(tail) {
		return true
	}
	return p.macro && p.rest(tail)
}

func (p *parser) take() api.Form {
	f := p.left[0]
	p.left = p.left[1:]
	return f
}

func (p *parser) element(f api.Form) bool {
	if marker := markerOf(f); marker != "" {
		return p.marker(marker)
	}
	switch p.state {
	case atFirst, inRequired:
		p.state = inRequired
		return p.target(Item{Kind: Required}, f)
	case inOptional:
		return p.optional(f)
	case inKeys:
		return p.key(f)
	case inAux:
		return p.aux(f)
	}
	return false
}

// marker goes on behind a marker.
func (p *parser) marker(marker string) bool {
	switch marker {
	case markWhole:
		ok := p.macro && p.outer && p.state == atFirst
		p.state = inRequired
		return ok && p.next(Whole)
	case markEnvironment:
		ok := p.macro && p.outer && !p.environment
		p.state, p.environment = max(p.state, inRequired), true
		return ok && p.next(Environment)
	case markOptional:
		return p.enter(inOptional)
	case markRest, markBody:
		return len(p.left) > 0 && p.rest(p.take())
	case markKey:
		p.list.Keys = true
		return p.enter(inKeys)
	case markAllow:
		p.list.Allow = true
		return p.state == inKeys && p.enter(behindKeys)
	}
	return p.enter(inAux)
}

// enter goes on to a later group.
func (p *parser) enter(state int) bool {
	ok := p.state < state
	p.state = state
	return ok
}

// next reads the variable behind a marker.
func (p *parser) next(kind int) bool {
	return len(p.left) > 0 && p.variable(Item{Kind: kind}, p.take())
}

func (p *parser) rest(f api.Form) bool {
	return p.enter(behindRest) && p.variable(Item{Kind: Rest}, f)
}

// add adds an item whose variable or pattern is known.
func (p *parser) add(item Item) bool {
	if item.Init.Kind == 0 {
		item.Init = forms.Nil()
	}
	p.list.Items = append(p.list.Items, item)
	return true
}

func (p *parser) variable(item Item, f api.Form) bool {
	item.Var = tree.Copy(f)
	return isVariable(f) && p.add(item)
}

// target adds an item with a variable, or with a pattern, where macros may have one.
func (p *parser) target(item Item, f api.Form) bool {
	if !p.macro || !isList(f) {
		return p.variable(item, f)
	}
	inner := parser{macro: true}
	if !inner.read(f) {
		return false
	}
	item.Pattern = &inner.list
	return p.add(item)
}

func (p *parser) optional(f api.Form) bool {
	if isVariable(f) {
		return p.variable(Item{Kind: Optional}, f)
	}
	parts, ok := forms.Items(f)
	item, ok2 := withParts(Item{Kind: Optional}, parts)
	return ok && ok2 && p.target(item, parts[0])
}

func (p *parser) key(f api.Form) bool {
	if isVariable(f) {
		return p.variable(Item{Kind: Key, Key: forms.Symbol(keyword, f.Text)}, f)
	}
	parts, ok := forms.Items(f)
	item, ok2 := withParts(Item{Kind: Key}, parts)
	if !ok || !ok2 {
		return false
	}
	if isVariable(parts[0]) {
		item.Key = forms.Symbol(keyword, parts[0].Text)
		return p.variable(item, parts[0])
	}
	names, ok := forms.Items(parts[0])
	if !ok || len(names) != 2 || names[0].Kind != api.FormSymbol {
		return false
	}
	item.Key = tree.Copy(names[0])
	return p.target(item, names[1])
}

// withParts returns an item with the init form, and the variable that tells, of a list of one to three parts.
func withParts(item Item, parts []api.Form) (Item, bool) {
	if len(parts) < 1 || len(parts) > 3 {
		return Item{}, false
	}
	if len(parts) > 1 {
		item.Init = tree.Copy(parts[1])
	}
	if len(parts) > 2 {
		item.Given = tree.Copy(parts[2])
		return item, isVariable(parts[2])
	}
	return item, true
}

func (p *parser) aux(f api.Form) bool {
	if isVariable(f) {
		return p.variable(Item{Kind: Aux}, f)
	}
	parts, ok := forms.Items(f)
	if !ok || len(parts) < 1 || len(parts) > 2 {
		return false
	}
	item := Item{Kind: Aux}
	if len(parts) > 1 {
		item.Init = tree.Copy(parts[1])
	}
	return p.variable(item, parts[0])
}

// hasTwins reports whether a symbol occurs twice.
func hasTwins(symbols []api.Form) bool {
	met := map[[2]string]bool{}
	for _, f := range symbols {
		name := [2]string{f.Home, f.Text}
		if met[name] {
			return true
		}
		met[name] = true
	}
	return false
}

// hasTwinKeys reports whether two parameters of one list, also of a pattern, have the same key.
func hasTwinKeys(l List) bool {
	var keys []api.Form
	for _, item := range l.Items {
		if item.Pattern != nil && hasTwinKeys(*item.Pattern) {
			return true
		}
		if item.Kind == Key {
			keys = append(keys, item.Key)
		}
	}
	return hasTwins(keys)
}
