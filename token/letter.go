package token

const betweenCases = 'a' - 'A'

func isSmall(c rune) bool { return c >= 'a' && c <= 'z' }

func isGreat(c rune) bool { return c >= 'A' && c <= 'Z' }

func isLetter(c rune) bool { return isSmall(c) || isGreat(c) }

// changeCase changes the letters that are not escaped, in place.
func (x Token) changeCase(mode int) {
	if mode == Invert {
		mode = x.inversion()
	}
	for i, c := range x.Chars {
		switch {
		case x.Escaped[i]:
		case mode == Upcase && isSmall(c):
			x.Chars[i] = c - betweenCases
		case mode == Downcase && isGreat(c):
			x.Chars[i] = c + betweenCases
		}
	}
}

// inversion returns the case that does what Invert does to a token.
func (x Token) inversion() int {
	small, great := false, false
	for i, c := range x.Chars {
		if !x.Escaped[i] {
			small = small || isSmall(c)
			great = great || isGreat(c)
		}
	}
	switch {
	case small && !great:
		return Upcase
	case great && !small:
		return Downcase
	}
	return Preserve
}

// opposite returns the case that takes back what a case does.
func opposite(mode int) int {
	switch mode {
	case Upcase:
		return Downcase
	case Downcase:
		return Upcase
	}
	return mode
}
