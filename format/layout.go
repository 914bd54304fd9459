package format

// times performs a directive that puts a character out several times.
func (s *scene) times(d directive, text string) int {
	s.out.repeat(text, s.parameters(d).numberOr(0, maxNumber, 1))
	return goesOn
}

func (s *scene) lines(d directive) int { return s.times(d, "\n") }

func (s *scene) pages(d directive) int { return s.times(d, "\f") }

func (s *scene) tildes(d directive) int { return s.times(d, "~") }

// freshLine performs ~&.
func (s *scene) freshLine(d directive) int {
	n := s.parameters(d).numberOr(0, maxNumber, 1)
	if n > 0 && s.out.column == 0 {
		n--
	}
	s.out.repeat("\n", n)
	return goesOn
}

// lineEnd performs ~ and a line feed.
func (s *scene) lineEnd(d directive) int {
	s.out.write(d.text)
	return goesOn
}

// tabulate performs ~T.
func (s *scene) tabulate(d directive) int {
	p := s.parameters(d)
	column := p.numberOr(0, maxNumber, 1)
	step := p.numberOr(0, maxNumber, 1)
	from := s.out.column
	switch {
	case d.at:
		column += from
		if step > 0 {
			column = (column + step - 1) / step * step
		}
	case step > 0 && from >= column:
		column += ((from-column)/step + 1) * step
	}
	s.out.repeat(" ", max(column-from, 0))
	return goesOn
}

// pass performs ~*.
func (s *scene) pass(d directive) int {
	p := s.parameters(d)
	switch {
	case d.at:
		s.args.move(p.numberOr(0, maxNumber, 0))
	case d.colon:
		n := p.numberOr(0, maxNumber, 1)
		s.args.move(s.args.at - n)
	default:
		n := p.numberOr(0, maxNumber, 1)
		s.args.move(s.args.at + n)
	}
	return goesOn
}
