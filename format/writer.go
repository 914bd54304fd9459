package format

import (
	"strings"

	"commonform/api"
)

// writer is an output that knows its column.
type writer struct {
	text   []byte
	before int // bytes that were put out ahead of it
	column int
}

// write puts a text out.
func (w *writer) write(text string) {
	if len(text) > api.MaxOutput-w.size() {
		fail(api.ErrFull)
	}
	w.text = append(w.text, text...)
	if i := strings.LastIndexByte(text, newline); i >= 0 {
		w.column, text = 0, text[i+1:]
	}
	w.column += len(text)
}

// repeat puts a text out several times.
func (w *writer) repeat(text string, n int) { w.write(strings.Repeat(text, n)) }

func (w *writer) size() int { return w.before + len(w.text) }

// inner returns an output that goes on where this one is, and that counts for it.
func (w *writer) inner() *writer { return &writer{before: w.size(), column: w.column} }

// apart returns an output that begins in the column of this one.
func (w *writer) apart() *writer { return &writer{column: w.column} }
