package pretty

import (
	"strings"

	"commonform/api"
)

// writer makes a text. The spaces at the end of the line are kept apart, since a break takes them away again.
type writer struct {
	text   strings.Builder
	spaces int
	column int
	feeds  int // line feeds so far
}

// add appends a text.
func (w *writer) add(s string) {
	word := strings.TrimRight(s, " ")
	if word != "" {
		w.flush()
		w.text.WriteString(word)
	}
	w.spaces += len(s) - len(word)
	for _, c := range s {
		w.column++
		if c == '\n' {
			w.column = 0
			w.feeds++
		}
	}
}

// pad appends spaces, or none if there are less than one.
func (w *writer) pad(n int) {
	n = max(n, 0)
	w.spaces += n
	w.column += n
}

// feed ends the line, without the spaces at its end.
func (w *writer) feed() {
	w.spaces = 0
	w.add("\n")
}

func (w *writer) flush() {
	w.text.WriteString(strings.Repeat(" ", w.spaces))
	w.spaces = 0
}

// full reports whether the text is too long, whatever follows.
func (w *writer) full() bool { return w.text.Len() > maxWritten }

// result returns the text.
func (w *writer) result() (string, api.Errno) {
	w.flush()
	if w.full() {
		return "", api.ErrLarge
	}
	return w.text.String(), api.OK
}
