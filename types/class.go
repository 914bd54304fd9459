package types

import (
	"strconv"

	"commonform/api"
	"commonform/forms"
)

// answers say which ones of some types an object is of: one bit for each.
type answers string

func (a answers) has(i int) bool { return a[i/8]>>(i%8)&1 == 1 }

// answersOf returns the answers to a number of questions.
func answersOf(count int, ask func(i int) bool) answers {
	bits := make([]byte, (count+7)/8)
	for i := range count {
		if ask(i) {
			bits[i/8] |= 1 << (i % 8)
		}
	}
	return answers(bits)
}

// sample is an object: an atom, or a cons of two others.
type sample struct {
	atom     atom
	car, cdr *sample // of a cons
}

func (s sample) form() api.Form {
	if s.car == nil {
		return s.atom.made()
	}
	return forms.Dotted([]api.Form{s.car.form()}, s.cdr.form())
}

// class has all objects with the same answers, of which it keeps one.
type class struct {
	answers answers
	sample  sample
}

// parting parts objects into classes by what they answer to types.
type parting struct {
	types []*specifier
	met   map[answers]bool
	all   []class
}

// add adds an object; is says of which of the simple types it is.
func (p *parting) add(s sample, is func(part *specifier) bool) {
	key := answersOf(len(p.types), func(i int) bool { return p.types[i].holds(is) })
	if !p.met[key] {
		p.met[key] = true
		p.all = append(p.all, class{answers: key, sample: s})
	}
}

// classesOf returns the classes of all objects by some types: each object answers like the one of some class.
func classesOf(types []*specifier) []class {
	if len(types) == 0 {
		return []class{{sample: sample{atom: atomOf(forms.Nil())}}}
	}
	var simple, conses []*specifier
	for _, s := range types {
		s.simple(func(part *specifier) {
			if part.op == opCons {
				conses = append(conses, part)
			} else {
				simple = append(simple, part)
			}
		})
	}
	p := parting{types: types, met: map[answers]bool{}}
	for _, a := range mentionedBy(simple).atoms() {
		p.add(sample{atom: a}, a.is)
	}
	p.addConses(conses)
	return p.all
}

// addConses adds a cons for any two classes of cars and cdrs, by the types that those of conses have for them.
func (p *parting) addConses(conses []*specifier) {
	var types [2][]*specifier
	places := map[*specifier]int{}
	for i, s := range conses {
		places[s] = i
		for side, part := range s.parts {
			types[side] = append(types[side], part)
		}
	}
	cars := p.grouped(classesOf(types[0]), types[1], places)
	cdrs := p.grouped(classesOf(types[1]), types[0], places)
	for i := range cars {
		for k := range cdrs {
			p.add(sample{car: &cars[i].sample, cdr: &cdrs[k].sample}, func(part *specifier) bool {
				if part.op != opCons {
					return part.kinds.has(kindCons)
				}
				place := places[part]
				return cars[i].answers.has(place) && cdrs[k].answers.has(place)
			})
		}
	}
}

// grouped returns the classes of one part of conses, but only one of those that leave the same to be asked of the other part, by its types. There may be far fewer of them.
func (p *parting) grouped(all []class, others []*specifier, places map[*specifier]int) []class {
	met := map[string]bool{}
	var few []class
	for _, c := range all {
		left := ""
		for _, s := range p.types {
			left += s.left(func(part *specifier) string {
				place := places[part]
				switch {
				case !c.answers.has(place):
					return holdsNever
				case others[place].isAll():
					return holdsAlways
				}
				return strconv.Itoa(place)
			}) + ";"
		}
		if !met[left] {
			met[left] = true
			few = append(few, c)
		}
	}
	return few
}
