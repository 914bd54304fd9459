package format

import (
	"commonform/api"
	"commonform/forms"
)

// given reads a control string that is an argument.
func given(control string) []directive {
	block, e := read(control)
	if e != api.OK {
		fail(api.ErrForm)
	}
	return block
}

// control performs ~?.
func (s *scene) control(d directive) int {
	text := s.args.takeString()
	inner := *s
	if !d.at {
		inner.args = &arguments{list: s.args.takeList()}
	}
	if s.strings >= maxStrings {
		fail(api.ErrFull)
	}
	block := given(text)
	s.strings++
	inner.perform(block)
	s.strings--
	return goesOn
}

// changeCase performs ~(.
func (s *scene) changeCase(d directive) int {
	inner := *s
	inner.out = s.out.inner()
	end := inner.perform(d.parts[0])
	s.writeOr(Cased(string(inner.out.text), d.colon, d.at))
	return end
}

// choose performs ~[.
func (s *scene) choose(d directive) int {
	n, byParameter := s.parameters(d).number(0, maxNumber)
	if d.colon || d.at {
		return s.chooseByNil(d, byParameter)
	}
	if !byParameter {
		n = s.takeIndex(len(d.parts))
	}
	if n >= len(d.parts) {
		if !d.otherwise {
			return goesOn
		}
		n = len(d.parts) - 1
	}
	return s.perform(d.parts[n])
}

// takeIndex takes an integer, and returns it if it is the index of one of some parts, and otherwise their number.
func (s *scene) takeIndex(parts int) int {
	x, ok := integerOf(s.args.take())
	if !ok {
		fail(api.ErrType)
	}
	n, small := x.Int64()
	if !small || n < 0 || n >= int64(parts) {
		return parts
	}
	return int(n)
}

// chooseByNil performs ~:[ and ~@[; a parameter is a number, and so not NIL.
func (s *scene) chooseByNil(d directive, byParameter bool) int {
	is := !byParameter && forms.IsNil(s.args.take())
	switch {
	case d.at && is:
		return goesOn
	case d.at:
		if !byParameter {
			s.args.at--
		}
		return s.perform(d.parts[0])
	case is:
		return s.perform(d.parts[0])
	}
	return s.perform(d.parts[1])
}

// iterate performs ~{.
func (s *scene) iterate(d directive) int {
	limit, limited := s.parameters(d).number(0, maxNumber)
	body, control := d.parts[0], ""
	if len(body) == 0 {
		control = s.args.takeString()
	}
	from := s.args
	if !d.at {
		from = &arguments{list: s.args.takeList()}
	}
	if len(body) == 0 {
		body = given(control)
	}
	list := &arguments{list: from.list[from.at:]}
	each := s.elements
	if d.colon {
		each = s.lists
	}
	for n := 0; !limited || n < limit; n++ {
		if list.left() == 0 && !(d.once && n == 0) {
			break
		}
		s.count()
		if each(body, list) {
			break
		}
	}
	from.at += list.at
	return goesOn
}

// elements performs one time of an iteration with the elements of a list, and returns whether the iteration ends.
func (s *scene) elements(body []directive, list *arguments) bool {
	inner := *s
	inner.args = list
	return inner.perform(body) != goesOn
}

// lists performs one time of an iteration with the next list of a list, or none, and returns whether the iteration ends.
func (s *scene) lists(body []directive, list *arguments) bool {
	inner := *s
	inner.args = &arguments{}
	if list.left() > 0 {
		inner.args.list = list.takeList()
	}
	inner.listsLeft = list.left() > 0
	return inner.perform(body) == endsAll
}

// justify performs ~<.
func (s *scene) justify(d directive) int {
	p := s.parameters(d)
	width := p.numberOr(0, maxNumber, 0)
	step := p.numberOr(1, maxNumber, 1)
	least := p.numberOr(0, maxNumber, 0)
	pad := p.textOr(" ")
	var texts []string
	for _, part := range d.parts {
		s.count()
		inner := *s
		inner.out = s.out.apart()
		if inner.perform(part) != goesOn {
			break
		}
		if len(texts) == maxTexts || len(inner.out.text) > api.MaxSource {
			fail(api.ErrFull)
		}
		texts = append(texts, string(inner.out.text))
	}
	if len(texts) > 0 {
		s.writeOr(Justified(texts, width, step, least, pad, d.colon, d.at))
	}
	return goesOn
}

// end performs ~^.
func (s *scene) end(d directive) int {
	p := s.parameters(d)
	var l []int
	for range d.parameters {
		l = append(l, p.numberOr(-maxTaken, maxTaken, 0))
	}
	ends := false
	switch len(l) {
	case 0:
		ends = s.args.left() == 0
		if d.colon {
			ends = !s.listsLeft
		}
	case 1:
		ends = l[0] == 0
	case 2:
		ends = l[0] == l[1]
	case 3:
		ends = l[0] <= l[1] && l[1] <= l[2]
	}
	switch {
	case !ends:
		return goesOn
	case d.colon:
		return endsAll
	}
	return endsPart
}
