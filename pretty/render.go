package pretty

import (
	"strings"

	"commonform/api"
)

// Render returns the text of operations in lines of a width.
func Render(l []Op, width, miser int) (string, api.Errno) {
	if e := Check(l); e != api.OK {
		return "", e
	}
	if width < 1 || width > maxWidth || miser < 0 || miser > maxWidth {
		return "", api.ErrArg
	}
	r := rendering{ops: l, width: width, miser: miser, fits: measure(l, width)}
	r.begin(&block{long: !r.fits(0, 0, whole)}, 0)
	for i, op := range l {
		r.perform(i, op)
		if r.out.full() {
			return "", api.ErrLarge
		}
	}
	return r.out.result()
}

// block is a block that is open.
type block struct {
	start, indentation int
	long, miser        bool
	prefix             string // of each line
	each               bool   // whether it has one
	column             int    // where the prefix stood
	fitted             bool   // whether the present section fitted where it began
	feeds              int    // the line feeds ahead of the present section
}

// rendering goes through operations.
type rendering struct {
	ops          []Op
	width, miser int
	fits         func(from, column, outer int) bool
	out          writer
	open         []*block // from the outermost one on
}

// perform does what an operation says.
func (r *rendering) perform(i int, op Op) {
	b := r.open[len(r.open)-1]
	switch op.Kind {
	case Text:
		r.out.add(op.Text)
	case Open:
		inner := &block{long: !b.fitted, prefix: op.Text, each: op.Flag, column: r.out.column}
		r.out.add(op.Text)
		r.begin(inner, i+1)
	case Close:
		r.out.add(op.Text)
		r.open = r.open[:len(r.open)-1]
	case Indent:
		b.indent(op, r.out.column)
	case Tab:
		r.out.pad(op.spaces(r.out.column))
	case Newline:
		r.newline(b, i)
	}
}

// begin opens a block at the present column.
func (r *rendering) begin(b *block, first int) {
	b.start = r.out.column
	b.indentation = b.start
	b.miser = r.width-b.start <= r.miser
	r.open = append(r.open, b)
	r.section(b, first)
}

// section begins a section of a block with an operation.
func (r *rendering) section(b *block, first int) {
	b.fitted = r.fits(first, r.out.column, inSection)
	b.feeds = r.out.feeds
}

func (b *block) indent(op Op, column int) {
	if b.miser {
		return
	}
	from := b.start
	if op.Flag {
		from = column
	}
	b.indentation = max(from+op.N, 0)
}

// newline breaks the line, if there is a reason to, and begins the next section.
func (r *rendering) newline(b *block, i int) {
	cramped := b.long && b.miser
breaking:
	switch r.ops[i].N {
	case Linear:
		if !b.long {
			break breaking
		}
		r.breakLine(b)
	case Miser:
		if !cramped {
			break breaking
		}
		r.breakLine(b)
	case Fill:
		if !cramped && b.feeds == r.out.feeds && r.fits(i+1, r.out.column, inSection) {
			break breaking
		}
		r.breakLine(b)
	case Mandatory:
		r.breakLine(b)
	}
	r.section(b, i+1)
}

// breakLine ends the line, and begins one with the prefixes of the open blocks.
func (r *rendering) breakLine(b *block) {
	r.out.feed()
	for _, outer := range r.open {
		if outer.each {
			r.out.pad(outer.column - r.out.column)
			r.out.add(outer.prefix)
		}
	}
	r.out.pad(b.indentation - r.out.column)
}

// How many blocks around the first operation a measurement is to go beyond: newlines end a section in its own block, and nothing ends the whole.
const (
	inSection = 0
	whole     = -1
)

// measure returns the function that tells whether a section that begins with an operation fits in a column.
func measure(l []Op, width int) func(from, column, outer int) bool {
	return func(from, column, outer int) bool {
		depth := 0 // outer is the outermost depth to which the section came: newlines within other blocks do not end it
		for _, op := range l[from:] {
			if column > width {
				return false
			}
			switch op.Kind {
			case Text:
				if strings.Contains(op.Text, "\n") {
					return false
				}
			case Newline:
				if depth == outer {
					return true
				}
				if op.N == Mandatory {
					return false
				}
			case Open:
				depth++
			case Close:
				depth--
				outer = min(outer, depth)
			case Tab:
				column += op.spaces(column)
			}
			column += op.characters()
		}
		return column <= width
	}
}

// characters returns the number of characters that an operation's Text makes.
func (op Op) characters() int {
	count := 0
	if op.Kind == Text || op.Kind == Open || op.Kind == Close {
		for range op.Text {
			count++
		}
	}
	return count
}
