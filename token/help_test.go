package token

import (
	"math/rand"
	"slices"
	"strings"
	"testing"

	"commonform/api"
)

// modes are all cases.
func modes() []int { return []int{Upcase, Downcase, Preserve, Invert} }

// table returns the readtable with a case in which characters have other kinds, given in turn.
func table(t *testing.T, mode int, pairs ...rune) Table {
	t.Helper()
	x := Table{Case: mode}
	for i := 0; i < len(pairs); i += 2 {
		next, e := Set(x, pairs[i], int(pairs[i+1]))
		if e != api.OK {
			t.Fatalf("Set(%q, %d): %v", pairs[i], pairs[i+1], e)
		}
		x = next
	}
	return x
}

// full returns a readtable with as many entries as there may be.
func full() Table {
	var x Table
	for i := range MaxEntries {
		x.Entries = append(x.Entries, Entry{Char: rune(0x100 + i), Kind: White})
	}
	return x
}

// signs are the characters of the texts that are made by chance.
const signs = "aAbBzZ019.+-/^_:;#|\\'\"(), \n\t\x01éß€"

type chance struct{ *rand.Rand }

func newChance() chance { return chance{rand.New(rand.NewSource(1))} }

func (r chance) rune() rune {
	l := []rune(signs)
	return l[r.Intn(len(l))]
}

func (r chance) text(longest int) string {
	var b strings.Builder
	for range r.Intn(longest + 1) {
		b.WriteRune(r.rune())
	}
	return b.String()
}

// table makes a readtable in which some of the signs have other kinds.
func (r chance) table(t *testing.T) Table {
	t.Helper()
	x := Table{Case: r.Intn(4)}
	for range r.Intn(4) {
		next, e := Set(x, r.rune(), r.Intn(7))
		if e != api.OK {
			t.Fatalf("Set: %v", e)
		}
		x = next
	}
	return x
}

// eachChance calls a test with many readtables and sources of chance; the first ones are the standard readtables.
func eachChance(t *testing.T, test func(x Table, r chance)) {
	t.Helper()
	r := newChance()
	for i := range 4000 {
		x := Table{Case: i % 4}
		if i%3 > 0 {
			x = r.table(t)
		}
		test(x, r)
	}
}

func sameToken(x, y Token) bool {
	return slices.Equal(x.Chars, y.Chars) && slices.Equal(x.Escaped, y.Escaped) && x.Escapes == y.Escapes
}

func sameTable(x, y Table) bool { return x.Case == y.Case && slices.Equal(x.Entries, y.Entries) }

// whites returns the White characters among those that tests use.
func whites(x Table) []rune {
	var l []rune
	for _, c := range signs + " \f\r" {
		if kind, _ := Kind(x, c); kind == White {
			l = append(l, c)
		}
	}
	return l
}

func isNothing(x Token) bool { return len(x.Chars) == 0 && len(x.Escaped) == 0 && !x.Escapes }
