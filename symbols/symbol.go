package symbols

import "commonform/api"

// Intern returns the symbol with a name, and makes one if there is none.
func (t *Table) Intern(pack, name string) (symbol, status int, e api.Errno) {
	p, e := t.findFor(pack, name)
	if e != api.OK {
		return 0, 0, e
	}
	symbol, status = p.accessible(name)
	if status != None {
		return symbol, status, api.OK
	}
	symbol, e = t.makeIn(p, name)
	if e != api.OK {
		return 0, 0, e
	}
	if p.name == keyword {
		p.external[symbol] = true
	}
	return symbol, None, api.OK
}

// Find returns the accessible symbol with a name.
func (t *Table) Find(pack, name string) (symbol, status int, e api.Errno) {
	p, e := t.findFor(pack, name)
	if e != api.OK {
		return 0, 0, e
	}
	symbol, status = p.accessible(name)
	return symbol, status, api.OK
}

// Export makes a symbol external.
func (t *Table) Export(pack string, symbol int) api.Errno {
	p, name, e := t.findWith(pack, symbol)
	if e != api.OK {
		return e
	}
	if found, _ := p.accessible(name); found != symbol {
		return ErrAccess
	}
	for _, user := range t.users(p) {
		if user.clashes(name, symbol) {
			return ErrClash
		}
	}
	p.present[name] = symbol
	p.external[symbol] = true
	return api.OK
}

// Unexport makes a symbol internal.
func (t *Table) Unexport(pack string, symbol int) api.Errno {
	p, name, e := t.findWith(pack, symbol)
	if e != api.OK {
		return e
	}
	if found, _ := p.accessible(name); found != symbol {
		return ErrAccess
	}
	if p.name == keyword {
		return api.ErrArg
	}
	delete(p.external, symbol)
	return api.OK
}

// Import makes a symbol present.
func (t *Table) Import(pack string, symbol int) api.Errno {
	p, name, e := t.findWith(pack, symbol)
	switch {
	case e != api.OK:
		return e
	case p.isPresent(name, symbol):
		return api.OK
	}
	if found, status := p.accessible(name); status != None && found != symbol {
		return ErrClash
	}
	p.present[name] = symbol
	if t.symbols[symbol].home == "" {
		t.symbols[symbol].home = p.name
	}
	return api.OK
}

// Shadow makes a symbol with a name present and shadowing.
func (t *Table) Shadow(pack, name string) api.Errno {
	p, e := t.findFor(pack, name)
	if e != api.OK {
		return e
	}
	symbol, there := p.present[name]
	if !there {
		symbol, e = t.makeIn(p, name)
		if e != api.OK {
			return e
		}
	}
	p.shadowing[symbol] = true
	return api.OK
}

// ShadowingImport makes a symbol present and shadowing.
func (t *Table) ShadowingImport(pack string, symbol int) api.Errno {
	p, name, e := t.findWith(pack, symbol)
	if e != api.OK {
		return e
	}
	if other, there := p.present[name]; there && other != symbol {
		t.takeFrom(p, other)
	}
	p.present[name] = symbol
	p.shadowing[symbol] = true
	return api.OK
}

// Unintern takes a symbol away from a package.
func (t *Table) Unintern(pack string, symbol int) (bool, api.Errno) {
	p, name, e := t.findWith(pack, symbol)
	switch {
	case e != api.OK:
		return false, e
	case !p.isPresent(name, symbol):
		return false, api.OK
	case p.shadowing[symbol] && p.isAmbiguous(name):
		return false, ErrClash
	}
	t.takeFrom(p, symbol)
	return true, api.OK
}

// Fresh makes a symbol without a home.
func (t *Table) Fresh(name string) (int, api.Errno) {
	switch {
	case t.isNone():
		return 0, api.ErrArg
	case isLong(name):
		return 0, api.ErrSize
	}
	return t.make(name, "")
}

// Symbol returns a symbol's name and home.
func (t *Table) Symbol(symbol int) (name, home string, e api.Errno) {
	switch {
	case t.isNone():
		return "", "", api.ErrArg
	case !t.isSymbol(symbol):
		return "", "", api.ErrNone
	}
	s := t.symbols[symbol]
	return s.name, s.home, api.OK
}

// findFor returns the package in which a name is looked for; both texts are looked at ahead of what they mean.
func (t *Table) findFor(pack, name string) (*pack, api.Errno) {
	if !t.isNone() && isLong(pack, name) {
		return nil, api.ErrSize
	}
	return t.find(pack)
}

// findWith returns a package and the name of a symbol, which need not be in it.
func (t *Table) findWith(pack string, symbol int) (*pack, string, api.Errno) {
	p, e := t.find(pack)
	if e != api.OK {
		return nil, "", e
	}
	if !t.isSymbol(symbol) {
		return nil, "", api.ErrNone
	}
	return p, t.symbols[symbol].name, api.OK
}

func (t *Table) isSymbol(number int) bool { return number >= 0 && number < len(t.symbols) }

// make makes a symbol that is present nowhere.
func (t *Table) make(name, home string) (int, api.Errno) {
	if len(t.symbols) >= api.MaxSymbols {
		return 0, api.ErrFull
	}
	t.symbols = append(t.symbols, symbol{name: name, home: home})
	return len(t.symbols) - 1, api.OK
}

// makeIn makes an internal symbol of a package.
func (t *Table) makeIn(p *pack, name string) (int, api.Errno) {
	made, e := t.make(name, p.name)
	if e == api.OK {
		p.present[name] = made
	}
	return made, e
}

// takeFrom takes a present symbol away from a package.
func (t *Table) takeFrom(p *pack, symbol int) {
	p.remove(t.symbols[symbol].name, symbol)
	if t.symbols[symbol].home == p.name {
		t.symbols[symbol].home = ""
	}
}
