package token

import "commonform/api"

const marker = ':'

// Split returns the symbol that a token names.
func Split(x Token) (Name, api.Errno) {
	if !x.right() {
		return Name{}, api.ErrArg
	}
	if Dots(x) > 0 {
		return Name{}, ErrDots
	}
	at, last := x.markers(), len(x.Chars)-1
	switch {
	case len(at) == 0:
		return Name{Kind: Symbol, Name: string(x.Chars)}, api.OK
	case len(at) == 1 && at[0] == 0 && (last > 0 || x.Escapes):
		return Name{Kind: Keyword, Name: string(x.Chars[1:])}, api.OK
	case len(at) == 1 && at[0] > 0 && at[0] < last:
		return x.name(External, at), api.OK
	case len(at) == 2 && at[1] == at[0]+1 && at[0] > 0 && at[1] < last:
		return x.name(Internal, at), api.OK
	}
	return Name{}, ErrMarker
}

// markers returns the indices of the package markers.
func (x Token) markers() []int {
	var at []int
	for i, c := range x.Chars {
		if c == marker && !x.Escaped[i] {
			at = append(at, i)
		}
	}
	return at
}

// name returns the name with what stands ahead of the markers and behind them.
func (x Token) name(kind int, at []int) Name {
	return Name{Kind: kind, Package: string(x.Chars[:at[0]]), Name: string(x.Chars[at[len(at)-1]+1:])}
}
