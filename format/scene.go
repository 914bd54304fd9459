package format

import (
	"strconv"

	"commonform/api"
	"commonform/forms"
	"commonform/number"
)

const (
	maxPerformed = 10000
	maxStrings   = 20         // ~? in which another one stands
	maxTaken     = 1000000000 // the greatest number that is taken as a parameter
)

// How performing directives ends.
const (
	goesOn   = iota
	endsPart // by ~^
	endsAll  // by ~:^
)

// action performs a directive.
type action = func(s *scene, d directive) int

// run is what all scenes of one output share.
type run struct {
	actions   map[byte]action
	performed int
	strings   int // the ~? in which one stands
}

// count counts a directive, or what counts as one.
func (r *run) count() {
	r.performed++
	if r.performed > maxPerformed {
		fail(api.ErrFull)
	}
}

// scene is where directives are performed: with which arguments, and for which output.
type scene struct {
	*run
	args      *arguments
	out       *writer
	listsLeft bool // whether the iteration with colon has lists behind this one
}

// perform performs directives, until they end.
func (s *scene) perform(block []directive) int {
	for _, d := range block {
		if d.char == 0 {
			s.out.write(d.text)
			continue
		}
		s.count()
		if end := s.actions[d.char](s, d); end != goesOn {
			return end
		}
	}
	return goesOn
}

// arguments are taken one after the other.
type arguments struct {
	list []api.Form
	at   int
}

func (a *arguments) left() int { return len(a.list) - a.at }

func (a *arguments) take() api.Form {
	if a.left() == 0 {
		fail(api.ErrNone)
	}
	a.at++
	return a.list[a.at-1]
}

// move goes to a place, which may be the one behind the last argument.
func (a *arguments) move(to int) {
	if to < 0 || to > len(a.list) {
		fail(api.ErrNone)
	}
	a.at = to
}

func (a *arguments) takeString() string {
	x := a.take()
	if x.Kind != api.FormString {
		fail(api.ErrType)
	}
	return x.Text
}

func (a *arguments) takeList() []api.Form {
	items, ok := forms.Items(a.take())
	if !ok {
		fail(api.ErrType)
	}
	return items
}

// parameters finds the parameters of a directive, one after the other.
type parameters struct {
	scene *scene
	left  []parameter
}

func (s *scene) parameters(d directive) *parameters {
	return &parameters{scene: s, left: d.parameters}
}

// next returns the next parameter as a number, as a character, or as an empty one.
func (p *parameters) next() parameter {
	if len(p.left) == 0 {
		return parameter{}
	}
	found := p.left[0]
	p.left = p.left[1:]
	switch found.kind {
	case takenParameter:
		return takenFrom(p.scene.args.take())
	case leftParameter:
		return parameter{kind: numberParameter, number: p.scene.args.left()}
	}
	return found
}

// takenFrom returns the parameter that an argument stands for.
func takenFrom(x api.Form) parameter {
	switch {
	case forms.IsNil(x):
		return parameter{}
	case x.Kind == api.FormChar && len(x.Text) == 1:
		return parameter{kind: byteParameter, char: x.Text[0]}
	case x.Kind == api.FormInt && number.Check(x) == api.OK:
		n, err := strconv.Atoi(x.Text)
		if err != nil || n > maxTaken || n < -maxTaken {
			fail(api.ErrRange)
		}
		return parameter{kind: numberParameter, number: n}
	}
	fail(api.ErrType)
	return parameter{}
}

// number returns a number in a range, and whether it is given.
func (p *parameters) number(least, most int) (int, bool) {
	found := p.next()
	switch {
	case found.kind == emptyParameter:
		return 0, false
	case found.kind != numberParameter:
		fail(api.ErrType)
	case found.number < least || found.number > most:
		fail(api.ErrRange)
	}
	return found.number, true
}

// numberOr returns a number in a range, or another one for an empty parameter.
func (p *parameters) numberOr(least, most, otherwise int) int {
	if n, given := p.number(least, most); given {
		return n
	}
	return otherwise
}

// text returns a character as a text, and whether it is given.
func (p *parameters) text() (string, bool) {
	found := p.next()
	switch found.kind {
	case emptyParameter:
		return "", false
	case byteParameter:
		return string([]byte{found.char}), true
	}
	fail(api.ErrType)
	return "", false
}

func (p *parameters) textOr(otherwise string) string {
	if c, given := p.text(); given {
		return c
	}
	return otherwise
}
