package token

import (
	"math"
	"slices"
	"testing"

	"commonform/api"
)

// P6.1: the constants.
func TestConstants(t *testing.T) {
	if MaxEntries != 64 || ErrInvalid != 80 || ErrDots != 81 || ErrMarker != 82 {
		t.Error("limits or codes")
	}
	if Invalid != 0 || White != 1 || Constituent != 2 || Terminating != 3 || Nonterminating != 4 || Single != 5 || Multiple != 6 {
		t.Error("kinds")
	}
	if Upcase != 0 || Downcase != 1 || Preserve != 2 || Invert != 3 || Symbol != 0 || Keyword != 1 || External != 2 || Internal != 3 {
		t.Error("cases or names")
	}
}

// P6.1: the standard kinds of all characters.
func TestStandard(t *testing.T) {
	special := map[rune]int{
		9: White, 10: White, 12: White, 13: White, 32: White,
		'"': Terminating, '\'': Terminating, '(': Terminating, ')': Terminating, ',': Terminating, ';': Terminating, '`': Terminating,
		'#': Nonterminating, '\\': Single, '|': Multiple, 127: Invalid,
	}
	for c := rune(0); c <= 0x10ffff; c++ {
		want, there := special[c]
		if !there {
			want = Constituent
			if c < 32 || c >= 0xd800 && c <= 0xdfff {
				want = Invalid
			}
		}
		kind, e := Kind(Table{}, c)
		surrogate := c >= 0xd800 && c <= 0xdfff
		if Standard(c) != want || !surrogate && (kind != want || e != api.OK) || surrogate && (kind != 0 || e != api.ErrArg) {
			t.Fatalf("the character %x: Standard %d, Kind %d, %v; want %d", c, Standard(c), kind, e, want)
		}
	}
	for _, c := range []rune{-1, math.MinInt32, 0x110000, math.MaxInt32} {
		if Standard(c) != Invalid {
			t.Errorf("Standard(%x) = %d", c, Standard(c))
		}
	}
}

// P6.1: the errors of readtables.
func TestCheck(t *testing.T) {
	over := full()
	over.Entries = append(over.Entries, Entry{Char: 0x200, Kind: White})
	badOver := Table{Case: 9, Entries: make([]Entry, MaxEntries+1)}
	for _, c := range []struct {
		x    Table
		want api.Errno
	}{
		{Table{}, api.OK}, {Table{Case: Invert}, api.OK}, {full(), api.OK}, {over, api.ErrSize}, {badOver, api.ErrSize},
		{Table{Case: -1}, api.ErrArg}, {Table{Case: 4}, api.ErrArg},
		{Table{Entries: []Entry{{'a', Invalid}, {'b', Multiple}}}, api.OK},
		{Table{Entries: []Entry{{-1, White}}}, api.ErrArg}, {Table{Entries: []Entry{{0xd800, White}}}, api.ErrArg}, {Table{Entries: []Entry{{0x110000, White}}}, api.ErrArg}, {Table{Entries: []Entry{{0x10ffff, White}}}, api.OK},
		{Table{Entries: []Entry{{'a', -1}}}, api.ErrArg}, {Table{Entries: []Entry{{'a', 7}}}, api.ErrArg}, {Table{Entries: []Entry{{'a', Constituent}}}, api.ErrArg}, {Table{Entries: []Entry{{' ', White}}}, api.ErrArg}, {Table{Entries: []Entry{{127, Invalid}}}, api.ErrArg},
		{Table{Entries: []Entry{{'b', White}, {'a', White}}}, api.ErrOrder}, {Table{Entries: []Entry{{'a', White}, {'a', White}}}, api.ErrOrder},
		{Table{Entries: []Entry{{'b', White}, {'a', White}, {'c', 7}}}, api.ErrOrder}, {Table{Entries: []Entry{{'b', White}, {'a', 7}}}, api.ErrArg}, {Table{Entries: []Entry{{'b', 7}, {'a', White}}}, api.ErrArg}, {Table{Case: 4, Entries: []Entry{{'b', White}, {'a', White}}}, api.ErrArg},
	} {
		if e := Check(c.x); e != c.want {
			t.Errorf("Check(%v) = %v; want %v", c.x, e, c.want)
		}
		if kind, e := Kind(c.x, 'q'); e != c.want || e != api.OK && kind != 0 {
			t.Errorf("Kind of %v = %d, %v; want %v", c.x, kind, e, c.want)
		}
		if x, e := Set(c.x, 'a', White); c.want != api.OK && (e != c.want || x.Case != 0 || len(x.Entries) > 0) {
			t.Errorf("Set of %v = %v, %v; want %v", c.x, x, e, c.want)
		}
	}
}

// P6.1: Set, and its errors.
func TestSet(t *testing.T) {
	for _, c := range []struct {
		x    Table
		c    rune
		kind int
		want []Entry
		e    api.Errno
	}{
		{Table{Case: Invert}, 'b', White, []Entry{{'b', White}}, api.OK},
		{Table{Entries: []Entry{{'b', White}}}, 'a', Single, []Entry{{'a', Single}, {'b', White}}, api.OK},
		{Table{Entries: []Entry{{'b', White}}}, 'c', Single, []Entry{{'b', White}, {'c', Single}}, api.OK},
		{Table{Entries: []Entry{{'b', White}}}, 'b', Single, []Entry{{'b', Single}}, api.OK},
		{Table{Entries: []Entry{{'b', White}}}, 'b', Constituent, nil, api.OK},
		{Table{}, 'b', Constituent, nil, api.OK},
		{Table{}, -1, White, nil, api.ErrArg}, {Table{}, 0xdfff, White, nil, api.ErrArg}, {Table{}, 0x110000, 9, nil, api.ErrArg},
		{Table{}, 'a', -1, nil, api.ErrArg}, {Table{}, 'a', 7, nil, api.ErrArg},
		{full(), 'a', White, nil, api.ErrFull}, {full(), 'a', Constituent, full().Entries, api.OK}, {full(), 0x100, Constituent, full().Entries[1:], api.OK}, {full(), 'a', 7, nil, api.ErrArg},
	} {
		before := slices.Clone(c.x.Entries)
		x, e := Set(c.x, c.c, c.kind)
		if e != c.e || !slices.Equal(x.Entries, c.want) || e == api.OK && x.Case != c.x.Case {
			t.Errorf("Set(%v, %q, %d) = %v, %v; want %v, %v", c.x, c.c, c.kind, x, e, c.want, c.e)
		}
		for i := range x.Entries {
			x.Entries[i].Kind = 9
		}
		if !slices.Equal(before, c.x.Entries) {
			t.Errorf("Set shares its entries with %v", c.x)
		}
	}
}

// P6.2.
func TestSetLaws(t *testing.T) {
	eachChance(t, func(x Table, r chance) {
		c, d := r.rune(), r.rune()
		kind, other := r.Intn(7), r.Intn(7)
		y, e := Set(x, c, kind)
		if e != api.OK {
			t.Fatalf("Set: %v", e)
		}
		for _, each := range []rune(signs) {
			was, _ := Kind(x, each)
			is, _ := Kind(y, each)
			if each == c && is != kind || each != c && is != was {
				t.Fatalf("Set(%v, %q, %d) has %q of the kind %d", x, c, kind, each, is)
			}
		}
		was, _ := Kind(x, c)
		if back, _ := Set(y, c, was); !sameTable(back, x) {
			t.Fatalf("setting %q back in %v gives %v; want %v", c, y, back, x)
		}
		if c == d {
			return
		}
		first, _ := Set(y, d, other)
		second, _ := Set(x, d, other)
		if second, _ = Set(second, c, kind); !sameTable(first, second) {
			t.Fatalf("the order of %q and %q matters: %v, %v", c, d, first, second)
		}
	})
}
