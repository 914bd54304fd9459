package pretty

import (
	"math/rand"
	"strings"
	"testing"
	"unicode/utf8"

	"commonform/api"
	"commonform/forms"
	"commonform/notation"
	"commonform/printer"
)

func text(s string) Op { return Op{Kind: Text, Text: s} }

func line(kind int) Op { return Op{Kind: Newline, N: kind} }

func open(s string) Op { return Op{Kind: Open, Text: s} }

func each(s string) Op { return Op{Kind: Open, Text: s, Flag: true} }

func closing(s string) Op { return Op{Kind: Close, Text: s} }

func indent(n int) Op { return Op{Kind: Indent, N: n} }

func indentHere(n int) Op { return Op{Kind: Indent, N: n, Flag: true} }

func tab(n, m int) Op { return Op{Kind: Tab, N: n, M: m} }

func tabHere(n, m int) Op { return Op{Kind: Tab, N: n, M: m, Flag: true} }

// row is a block of words with newlines of a kind between them.
func row(kind int, words ...string) []Op {
	l := []Op{open("(")}
	for i, word := range words {
		if i > 0 {
			l = append(l, text(" "), line(kind))
		}
		l = append(l, text(word))
	}
	return append(l, closing(")"))
}

func many(n int, l ...Op) []Op {
	var all []Op
	for range n {
		all = append(all, l...)
	}
	return all
}

func join(ls ...[]Op) []Op {
	var all []Op
	for _, l := range ls {
		all = append(all, l...)
	}
	return all
}

// chance makes operations by chance; the kinds of newlines are those from least to most.
type chance struct {
	*rand.Rand
	least, most   int
	feeds, prefix bool
}

func (r chance) ops(depth int) []Op {
	var l []Op
	for range r.Intn(9) {
		switch r.Intn(12) {
		case 0, 1, 2:
			words := []string{"a", "bb", "ccc", "dddd", "é€", "x ", " ", ""}
			l = append(l, text(words[r.Intn(len(words))]))
		case 3, 4, 5:
			l = append(l, line(r.least+r.Intn(r.most-r.least+1)))
		case 6, 7, 8:
			if depth > 0 {
				prefix := Op{Kind: Open, Text: []string{"(", "#(", "", ";é "}[r.Intn(4)], Flag: r.prefix && r.Intn(3) == 0}
				l = append(l, prefix)
				l = append(l, r.ops(depth-1)...)
				l = append(l, closing([]string{")", "", "]>"}[r.Intn(3)]))
			}
		case 9:
			l = append(l, Op{Kind: Indent, N: r.Intn(9) - 4, Flag: r.Intn(2) == 0})
		case 10:
			l = append(l, Op{Kind: Tab, N: r.Intn(6), M: r.Intn(5), Flag: r.Intn(2) == 0})
		case 11:
			if r.feeds {
				l = append(l, text("p\nq "))
			}
		}
	}
	return l
}

// eachOps calls a test with many operations, widths and miser widths.
func eachOps(t *testing.T, r chance, test func(l []Op, width, miser int)) {
	t.Helper()
	r.Rand = rand.New(rand.NewSource(1))
	for range 6000 {
		l := r.ops(4)
		if e := Check(l); e != api.OK {
			t.Fatalf("the test made wrong operations %v: %v", l, e)
		}
		test(l, 1+r.Intn(30), r.Intn(4)*r.Intn(10))
	}
}

func render(t *testing.T, l []Op, width, miser int) string {
	t.Helper()
	s, e := Render(l, width, miser)
	if e != api.OK {
		t.Fatalf("Render(%v, %d, %d): %v", l, width, miser, e)
	}
	return s
}

func flat(t *testing.T, l []Op) string {
	t.Helper()
	s, e := Flat(l)
	if e != api.OK {
		t.Fatalf("Flat(%v): %v", l, e)
	}
	return s
}

// model renders as the chapter says, word by word: with the whole text at each step, and with stretches that are made anew for each question.
type model struct {
	ops          []Op
	parents      []int // of each operation the index of the Open of its block, -1 for the outermost one
	width, miser int
	text         string
	blocks       map[int]*modelBlock
}

type modelBlock struct {
	start, indentation int
	long, miser        bool
	prefixColumn       int
	sectionFrom, feeds int // where the present section begins: the column, the line feeds ahead
	sectionAt          int // and the first operation
}

func newModel(l []Op, width, miser int) *model {
	m := &model{ops: l, width: width, miser: miser, blocks: map[int]*modelBlock{}}
	stack := []int{-1}
	for i, op := range l {
		if op.Kind == Close {
			stack = stack[:len(stack)-1]
		}
		m.parents = append(m.parents, stack[len(stack)-1])
		if op.Kind == Open {
			stack = append(stack, i)
		}
	}
	return m
}

// blockOf returns the block in which an operation stands; a Close stands in the block around its own one.
func (m *model) blockOf(i int) int { return m.parents[i] }

func (m *model) encloses(outer, inner int) bool {
	for inner != -1 && inner != outer {
		inner = m.parents[inner]
	}
	return inner == outer
}

// stretch returns the operations of the section of a block that begins with an operation.
func (m *model) stretch(from, block int) []Op {
	end := from
	for ; end < len(m.ops); end++ {
		if m.ops[end].Kind != Newline {
			continue
		}
		// the newline has to stand in the block, or in one around it that is not ended: that is one around the block
		if m.encloses(m.blockOf(end), block) {
			break
		}
	}
	return m.ops[from:end]
}

func (m *model) fits(l []Op, column int) bool {
	for _, op := range l {
		switch op.Kind {
		case Text, Open, Close:
			if strings.Contains(op.Text, "\n") {
				return false
			}
			column += utf8.RuneCountInString(op.Text)
		case Newline:
			if op.N == Mandatory {
				return false
			}
		case Tab:
			column += modelTab(op, column)
		}
	}
	return column <= m.width
}

// modelTab counts the spaces of a Tab one by one.
func modelTab(op Op, column int) int {
	for n := 0; ; n++ {
		at := column + n
		switch {
		case op.Flag && op.M == 0 && n == op.N, op.Flag && op.M > 0 && n >= op.N && at%op.M == 0:
			return n
		case op.Flag:
		case column < op.N && at == op.N, column >= op.N && op.M == 0, column >= op.N && n > 0 && (at-op.N)%max(op.M, 1) == 0:
			return n
		}
	}
}

func (m *model) column() int {
	return utf8.RuneCountInString(m.text[strings.LastIndex(m.text, "\n")+1:])
}

func (m *model) begin(block, first int, long bool) {
	m.blocks[block] = &modelBlock{start: m.column(), indentation: m.column(), long: long, miser: m.width-m.column() <= m.miser}
	m.section(block, first)
}

func (m *model) section(block, first int) {
	b := m.blocks[block]
	b.sectionFrom, b.feeds, b.sectionAt = m.column(), strings.Count(m.text, "\n"), first
}

func (m *model) render() string {
	m.begin(-1, 0, !m.fits(m.ops, 0))
	for i, op := range m.ops {
		block := m.blockOf(i)
		b := m.blocks[block]
		switch op.Kind {
		case Text, Close:
			m.text += op.Text
		case Open:
			column := m.column()
			m.text += op.Text
			m.begin(i, i+1, !m.fits(m.stretch(b.sectionAt, block), b.sectionFrom))
			m.blocks[i].prefixColumn = column
		case Indent:
			from := b.start
			if op.Flag {
				from = m.column()
			}
			if !b.miser {
				b.indentation = max(0, from+op.N)
			}
		case Tab:
			m.text += strings.Repeat(" ", modelTab(op, m.column()))
		case Newline:
			m.newline(i, block)
			m.section(block, i+1)
		}
	}
	return m.text
}

func (m *model) newline(i, block int) {
	b := m.blocks[block]
	broken := false
	switch m.ops[i].N {
	case Mandatory:
		broken = true
	case Linear:
		broken = b.long
	case Miser:
		broken = b.long && b.miser
	case Fill:
		broken = b.long && b.miser || !m.fits(m.stretch(i+1, block), m.column()) || strings.Count(m.text, "\n") > b.feeds
	}
	if !broken {
		return
	}
	m.text = strings.TrimRight(m.text, " ") + "\n"
	var open []int
	for outer := block; outer != -1; outer = m.parents[outer] {
		open = append([]int{outer}, open...)
	}
	for _, outer := range open {
		if m.ops[outer].Flag {
			m.text += strings.Repeat(" ", max(0, m.blocks[outer].prefixColumn-m.column())) + m.ops[outer].Text
		}
	}
	m.text += strings.Repeat(" ", max(0, b.indentation-m.column()))
}

// maker makes forms by chance.
type maker struct {
	*rand.Rand
	labels int
}

func (m *maker) form(depth int) api.Form {
	if depth == 0 || m.Intn(4) == 0 {
		return m.atom()
	}
	var l []api.Form
	for range m.Intn(5) {
		l = append(l, m.form(depth-1))
	}
	switch m.Intn(9) {
	case 0:
		return api.Form{Kind: api.FormVector, Kids: l}
	case 1:
		return api.Form{Kind: api.FormArray, Text: "2 2 1", Kids: []api.Form{m.form(depth - 1), m.atom(), m.atom(), m.atom()}}
	case 2:
		return api.Form{Kind: api.FormArray, Kids: []api.Form{m.form(depth - 1)}}
	case 3:
		names := []string{notation.Backquote, notation.Comma, notation.Comma, notation.Splice}
		return notation.Make(names[m.Intn(4)], m.form(depth-1))
	case 4:
		return forms.Call([]string{"QUOTE", "FUNCTION"}[m.Intn(2)], []api.Form{m.form(depth - 1)})
	case 5:
		n := string(rune('0' + m.labels%10))
		if m.labels++; m.labels > 10 {
			return m.atom()
		}
		part := api.Form{Kind: api.FormLabel, Text: n, Kids: []api.Form{m.form(depth - 1)}}
		return forms.List([]api.Form{part, {Kind: api.FormRef, Text: n}})
	case 6:
		return forms.Dotted(append(l, m.atom()), m.atom())
	}
	names := []string{"DEFUN", "LET", "PROGN", "IF", "CAR", "COND", "MULTIPLE-VALUE-BIND"}
	return forms.Call(names[m.Intn(len(names))], l)
}

func (m *maker) atom() api.Form {
	l := []api.Form{forms.Symbol("P", "FOO"), forms.Symbol("P", "@B"), forms.Symbol("COMMON-LISP", "CAR"), forms.Nil(), {Kind: api.FormInt, Text: "123"}, {Kind: api.FormString, Text: "a b"}, {Kind: api.FormString, Text: "@"}, {Kind: api.FormString}, {Kind: api.FormChar, Text: " "}, {Kind: api.FormBits, Text: "10"}, {Kind: api.FormVector}}
	return l[m.Intn(len(l))]
}

// eachForm calls a test with many right forms and options.
func eachForm(t *testing.T, test func(r *rand.Rand, o printer.Options, f api.Form)) {
	t.Helper()
	r := rand.New(rand.NewSource(1))
	for range 4000 {
		m := maker{Rand: r}
		f := m.form(4)
		if forms.Check(f) != api.OK {
			continue
		}
		o := printer.Standard("P")
		o.Circle, o.Abbrev, o.Array, o.Escape = r.Intn(4) > 0, r.Intn(4) > 0, r.Intn(6) > 0, r.Intn(4) > 0
		o.Length, o.Level = max(-1, r.Intn(12)-8), max(-1, r.Intn(12)-8)
		if r.Intn(2) == 0 {
			o.Uses = []string{"COMMON-LISP"}
		}
		test(r, o, f)
	}
}
