package symbols

import (
	"iter"
	"maps"
	"slices"
)

// pack is a package.
type pack struct {
	name      string
	nicknames []string
	uses      []*pack
	present   map[string]int // by names
	external  map[int]bool
	shadowing map[int]bool
}

func newPack(name string, nicknames []string, uses []*pack) *pack {
	return &pack{name: name, nicknames: nicknames, uses: uses, present: map[string]int{}, external: map[int]bool{}, shadowing: map[int]bool{}}
}

// accessible returns the symbol that a name means in a package, and its status.
func (p *pack) accessible(name string) (int, int) {
	if s, there := p.present[name]; there {
		if p.external[s] {
			return s, External
		}
		return s, Internal
	}
	for s := range p.inherited(name) {
		return s, Inherited
	}
	return noSymbol, None
}

// inherited yields the external symbols of the used packages that have a name.
func (p *pack) inherited(name string) iter.Seq[int] {
	return func(yield func(int) bool) {
		for _, used := range p.uses {
			if s, there := used.present[name]; there && used.external[s] && !yield(s) {
				return
			}
		}
	}
}

// isPresent reports whether a symbol with a name is present.
func (p *pack) isPresent(name string, s int) bool {
	present, there := p.present[name]
	return there && present == s
}

// clashes reports whether a further symbol that is to be accessible under a name would have no single meaning.
func (p *pack) clashes(name string, s int) bool {
	other, status := p.accessible(name)
	return status != None && other != s && !p.shadowing[other]
}

// isAmbiguous reports whether different symbols are inherited under a name.
func (p *pack) isAmbiguous(name string) bool {
	first, count := noSymbol, 0
	for s := range p.inherited(name) {
		if s != first {
			first = s
			count++
		}
	}
	return count > 1
}

// remove takes a present symbol away.
func (p *pack) remove(name string, s int) {
	delete(p.present, name)
	delete(p.external, s)
	delete(p.shadowing, s)
}

// numbers returns the numbers of the internal and of the external symbols.
func (p *pack) numbers() (internal, external []int) {
	for _, s := range p.present {
		if !p.external[s] {
			internal = append(internal, s)
		}
	}
	slices.Sort(internal)
	return internal, sorted(p.external)
}

// sorted returns the numbers of a set.
func sorted(set map[int]bool) []int { return slices.Sorted(maps.Keys(set)) }
