package table

import (
	"math/rand"
	"strings"
	"testing"

	"commonform/api"
	"commonform/heap"
)

// P17.1: the weakest test by which two words are the same.
func TestRelations(t *testing.T) {
	const none = 4
	m := newMaker(t, 20000)
	num := m.raw
	symbol := m.object(heap.KindSymbol, fix(1))
	pair := func(a, b heap.Word) heap.Word { return m.object(heap.KindComplex, a, b) }
	array := func(dims, elements heap.Word) heap.Word { return m.object(heap.KindArray, dims, elements) }
	for i, x := range []struct {
		a, b   heap.Word
		wanted int
	}{
		{fix(1), fix(1), Eq},
		{fix(1), fix(2), none},
		{symbol, symbol, Eq},
		{symbol, m.object(heap.KindSymbol, fix(1)), none},
		{fix(5), num(heap.KindInt, "5"), EqlTest},
		{num(heap.KindInt, "5"), num(heap.KindInt, "5"), EqlTest},
		{num(heap.KindInt, "05"), num(heap.KindInt, "05"), none},
		{num(heap.KindInt, strings.Repeat("7", 20000)), num(heap.KindInt, strings.Repeat("7", 20000)), EqlTest},
		{num(heap.KindInt, strings.Repeat("7", 20001)), num(heap.KindInt, strings.Repeat("7", 20001)), none},
		{num(heap.KindRatio, "1/2"), num(heap.KindRatio, "1/2"), EqlTest},
		{num(heap.KindRatio, "2/4"), num(heap.KindRatio, "2/4"), none},
		{num(heap.KindRatio, "1/2"), num(heap.KindSingle, "3f000000"), EqualpTest},
		{num(heap.KindSingle, "40000000"), fix(2), EqualpTest},
		{num(heap.KindSingle, "40000000"), num(heap.KindDouble, "4000000000000000"), EqualpTest},
		{num(heap.KindSingle, "00000000"), num(heap.KindSingle, "80000000"), EqualpTest},
		{num(heap.KindSingle, "40000000"), num(heap.KindSingle, "40000000"), EqlTest},
		{num(heap.KindSingle, "7f800000"), num(heap.KindSingle, "7f800000"), none}, // no float has these bits
		{num(heap.KindSingle, "40000000"), num(heap.KindString, "40000000"), none},
		{m.object(heap.KindInt, fix(1)), m.object(heap.KindInt, fix(1)), none},
		{m.object(heap.KindInt, fix(1)), fix(1), none},
		{pair(fix(1), fix(2)), pair(num(heap.KindInt, "1"), fix(2)), EqlTest},
		{pair(fix(1), fix(0)), pair(fix(1), fix(0)), none}, // this is no complex number
		{pair(num(heap.KindSingle, "40000000"), num(heap.KindSingle, "00000000")), fix(2), EqualpTest},
		{pair(fix(1), symbol), pair(fix(1), symbol), none},
		{num(heap.KindComplex, "12"), num(heap.KindComplex, "12"), none},
		{m.object(heap.KindComplex, fix(1), fix(2), fix(3)), m.object(heap.KindComplex, fix(1), fix(2), fix(3)), none},
		{char('a'), char('A'), EqualpTest},
		{char('Z'), char('z'), EqualpTest},
		{char('['), char('{'), none},
		{char('@'), char('`'), none},
		{char(228), char(196), none},
		{char(1), fix(1), none},
		{heap.Unbound, heap.Unbound, Eq},
		{heap.Nil, heap.Unbound, none},
		{m.text("ab"), m.text("ab"), EqualTest},
		{m.text("ab"), m.text("aB"), EqualpTest},
		{m.text("ab"), m.text("abc"), none},
		{m.text(""), num(heap.KindBits, ""), EqualpTest},
		{m.text(""), m.vector(), EqualpTest},
		{m.text("\xff"), m.text("\xfe"), EqualpTest},
		{m.text("\xff"), m.text("\ufffd"), EqualpTest},
		{m.text("\xe2\x82"), m.text("\ufffd"), none},
		{m.text("\xe2\x82"), m.text("\xff\xff"), EqualpTest},
		{m.text("Ab"), m.vector(char('a'), char('B')), EqualpTest},
		{m.object(heap.KindString, fix(1)), m.object(heap.KindString, fix(1)), none},
		{num(heap.KindBits, "01"), num(heap.KindBits, "01"), EqualTest},
		{num(heap.KindBits, "01"), num(heap.KindBits, "x1"), EqualpTest},
		{num(heap.KindBits, "01"), m.vector(fix(0), num(heap.KindSingle, "3f800000")), EqualpTest},
		{num(heap.KindBits, "01"), m.text("01"), none},
		{m.cons(fix(1), fix(2)), m.cons(fix(1), fix(2)), EqualTest},
		{m.cons(fix(1), fix(2)), m.cons(fix(1), fix(3)), none},
		{m.cons(char('a'), m.text("x")), m.cons(char('A'), m.text("X")), EqualpTest},
		{m.cons(fix(1), m.vector()), m.cons(fix(1), m.vector()), EqualpTest},
		{m.object(heap.KindCons, fix(1)), m.object(heap.KindCons, fix(1)), none},
		{num(heap.KindCons, "12"), num(heap.KindCons, "12"), none},
		{m.vector(fix(1), fix(2)), m.cons(fix(1), fix(2)), none},
		{m.vector(fix(1), fix(2)), m.vector(fix(1), fix(2)), EqualpTest},
		{m.vector(fix(1)), array(m.vector(fix(1)), m.vector(num(heap.KindInt, "1"))), EqualpTest},
		{m.text("a"), array(m.vector(fix(1)), m.vector(char('A'))), EqualpTest},
		{m.vector(fix(1)), array(m.vector(num(heap.KindInt, "1")), m.vector(fix(1))), none}, // other words as dimensions
		{array(m.vector(fix(1), fix(2)), m.vector(fix(8), fix(9))), array(m.vector(fix(1), fix(2)), m.vector(fix(8), fix(9))), EqualpTest},
		{array(m.vector(fix(1), fix(2)), m.vector(fix(8), fix(9))), array(m.vector(fix(2), fix(1)), m.vector(fix(8), fix(9))), none},
		{array(m.vector(fix(2)), m.vector(fix(8))), array(m.vector(fix(2)), m.vector(fix(8), fix(9))), none},
		{array(m.vector(), m.vector(fix(8))), array(m.vector(), m.vector(fix(8))), EqualpTest},
		{array(m.vector(), m.vector(fix(8), fix(9))), m.cons(fix(8), fix(9)), none},
		{array(fix(1), m.vector(fix(8))), array(fix(1), m.vector(fix(8))), none},
		{array(num(heap.KindVector, "1"), m.vector(fix(8))), array(num(heap.KindVector, "1"), m.vector(fix(8))), none},
		{num(heap.KindVector, "1"), num(heap.KindVector, "1"), none},
		{m.object(heap.KindArray, m.vector(), m.vector(fix(8)), fix(0)), m.object(heap.KindArray, m.vector(), m.vector(fix(8)), fix(0)), none},
		{m.object(heap.KindBox, fix(1)), m.object(heap.KindBox, fix(1)), none},
		{m.table(EqlTest, false), m.table(EqlTest, false), none},
	} {
		for test := range 4 {
			for _, p := range [][2]heap.Word{{x.a, x.b}, {x.b, x.a}} {
				is := isRelated(t, m.Heap, test, p[0], p[1])
				if is != (test >= x.wanted) {
					t.Errorf("the pair %d: the test %d says %v", i, test, is)
				}
				a, _ := Hash(m.Heap, test, p[0])
				b, _ := Hash(m.Heap, test, p[1])
				if is && a != b {
					t.Errorf("the pair %d has two hashes by the test %d", i, test)
				}
			}
		}
	}
}

// P17.1: errors of the relations, in their order.
func TestRelationErrors(t *testing.T) {
	m := newMaker(t, 100)
	c := m.cons(0, 0)
	for _, f := range relations() {
		for _, h := range []*heap.Heap{nil, {}} {
			is, e := f(h, 7, 7)
			want(t, "no heap", e, api.ErrArg)
			if is {
				t.Error("a relation of no heap")
			}
		}
		for _, w := range []heap.Word{4, 7, 10, 0xd800<<3 | 1, 0x110000<<3 | 1, 59, 1<<63 | 3} {
			for _, p := range [][2]heap.Word{{w, w}, {w, c}, {c, w}} {
				is, e := f(m.Heap, p[0], p[1])
				want(t, "a word that is none", e, heap.ErrWord)
				if is {
					t.Errorf("%d is related to %d", p[0], p[1])
				}
			}
		}
	}
}

// P17.1, P17.2: the relations are the greatest ones; they are equivalences, one within the other; words that are the same have the same hash.
func TestGreatest(t *testing.T) {
	related := map[int]int{}
	for seed := range int64(300) {
		r := rand.New(rand.NewSource(seed))
		m := newMaker(t, 2000)
		words := m.some(r, 24)
		hashes := map[[2]uint64]uint64{}
		for test := range 4 {
			for _, w := range words {
				x, e := Hash(m.Heap, test, w)
				want(t, "Hash", e, api.OK)
				hashes[[2]uint64{uint64(test), uint64(w)}] = x
			}
		}
		for test := EqlTest; test <= EqualpTest; test++ {
			all := greatest(m.Heap, test, words)
			for _, a := range words {
				for _, b := range words {
					is, wanted := isRelated(t, m.Heap, test, a, b), all[[2]heap.Word{a, b}]
					if is != wanted {
						t.Fatalf("seed %d: the test %d of %d and %d says %v", seed, test, a, b, is)
					}
					if is && hashes[[2]uint64{uint64(test), uint64(a)}] != hashes[[2]uint64{uint64(test), uint64(b)}] {
						t.Fatalf("seed %d: %d and %d have other hashes by the test %d", seed, a, b, test)
					}
					if is && a != b {
						related[test]++
					}
					if isRelated(t, m.Heap, test-1, a, b) && !is {
						t.Fatalf("seed %d: the test %d is no part of the next one", seed, test-1)
					}
				}
			}
		}
	}
	for test := EqlTest; test <= EqualpTest; test++ {
		if related[test] < 400 {
			t.Errorf("only %d pairs are the same by the test %d", related[test], test)
		}
	}
}

// P17.2: what is the same stays so when it has moved; Hash by Equal and Equalp stays, too.
func TestMoved(t *testing.T) {
	for seed := range int64(60) {
		r := rand.New(rand.NewSource(seed))
		m := newMaker(t, 2000)
		words := m.some(r, 24)
		before := map[[3]int]bool{}
		hashes := map[[2]int]uint64{}
		for i, a := range words {
			for k, b := range words {
				for test := range 4 {
					before[[3]int{test, i, k}] = isRelated(t, m.Heap, test, a, b)
				}
			}
			hashes[[2]int{EqualTest, i}], _ = Hash(m.Heap, EqualTest, a)
			hashes[[2]int{EqualpTest, i}], _ = Hash(m.Heap, EqualpTest, a)
		}
		moved := m.move(r, m.Objects())
		for i, a := range words {
			for k, b := range words {
				for test := range 4 {
					if isRelated(t, m.Heap, test, moved(a), moved(b)) != before[[3]int{test, i, k}] {
						t.Fatalf("seed %d: the test %d of %d and %d has changed", seed, test, a, b)
					}
				}
			}
			for test := EqualTest; test <= EqualpTest; test++ {
				if x, e := Hash(m.Heap, test, moved(a)); e != api.OK || x != hashes[[2]int{test, i}] {
					t.Fatalf("seed %d: the hash of %d by the test %d has changed", seed, a, test)
				}
			}
		}
	}
}

// P17.1: errors of Hash, and the ones that are the same.
func TestHash(t *testing.T) {
	m := newMaker(t, 1000)
	for _, test := range []int{-1, 0, 3, 4} {
		x, e := Hash(nil, test, 7)
		want(t, "no heap", e, api.ErrArg)
		y, e := Hash(m.Heap, test, 7)
		want(t, "no word", e, heap.ErrWord)
		if x != 0 || y != 0 {
			t.Errorf("Hash = %d and %d", x, y)
		}
	}
	for _, test := range []int{-1, 4, 1 << 62, -1 << 63} {
		x, e := Hash(m.Heap, test, 8)
		want(t, "no test", e, api.ErrArg)
		if x != 0 {
			t.Errorf("Hash = %d", x)
		}
	}
	p := m.cons(fix(1), heap.Nil)
	m.Set(p, 1, p)
	m.Set(p, 0, p)
	q := m.cons(p, m.cons(p, p))
	for test := EqualTest; test <= EqualpTest; test++ {
		x, e := Hash(m.Heap, test, p)
		y, f := Hash(m.Heap, test, q)
		if e != api.OK || f != api.OK || x != y || !isRelated(t, m.Heap, test, p, q) {
			t.Errorf("circles: %d, %v, and %d, %v", x, e, y, f)
		}
	}
	different := map[uint64]bool{}
	for i := range 100 {
		x, _ := Hash(m.Heap, EqualTest, m.list(m.text("x"), fix(i)))
		different[x&15] = true
	}
	if len(different) < 12 {
		t.Errorf("only %d different ends of hashes", len(different))
	}
}

// P17.2: circles with lengths without a common divisor, and lists that are deep, end soon.
func TestCircles(t *testing.T) {
	m := newMaker(t, 65536)
	circle := func(length int, end heap.Word) heap.Word {
		last := m.cons(end, heap.Nil)
		first := last
		for range length - 1 {
			first = m.cons(fix(1), first)
		}
		m.Set(last, 1, first)
		return first
	}
	a, b, c := circle(7001, fix(1)), circle(6997, fix(1)), circle(7001, fix(2))
	for test := EqualTest; test <= EqualpTest; test++ {
		if !isRelated(t, m.Heap, test, a, b) || isRelated(t, m.Heap, test, a, c) || isRelated(t, m.Heap, test, c, b) {
			t.Errorf("circles by the test %d", test)
		}
	}
	m = newMaker(t, 65536)
	deep := func(w heap.Word) heap.Word {
		for range 16000 {
			w = m.vector(w)
		}
		return w
	}
	if p, q := deep(fix(1)), deep(m.raw(heap.KindInt, "1")); !isRelated(t, m.Heap, EqualpTest, p, q) {
		t.Error("deep vectors")
	}
	m = newMaker(t, 65536)
	share := func() heap.Word { // with 2 to the power of 60 ways through it
		w := m.vector(char('x'))
		for range 60 {
			w = m.vector(w, w)
		}
		return w
	}
	if !isRelated(t, m.Heap, EqualpTest, share(), share()) {
		t.Error("shared vectors")
	}
}
