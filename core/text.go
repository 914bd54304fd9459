package core

import (
	"strconv"
	"strings"

	"commonform/api"
)

const (
	plainBytes = "-*+/<>=%&" // beside letters and digits
	escape     = '~'
	noKey      = "-"
)

// Show returns the text of a core tree.
func Show(c api.Core) (string, api.Errno) {
	if Check(c) != api.OK {
		return "", api.ErrForm
	}
	var w writer
	w.node(c)
	return w.text.String(), api.OK
}

// writer writes the text of a right core tree.
type writer struct{ text strings.Builder }

func (w *writer) node(c api.Core) {
	s, _ := shapeOf(c.Op)
	w.text.WriteString("(" + s.name)
	if s.has(fieldN) {
		w.text.WriteString(" " + strconv.Itoa(c.N))
	}
	if s.has(fieldVars) {
		w.list(len(c.Vars), func(i int) { w.text.WriteString(strconv.Itoa(c.Vars[i])) })
	}
	if s.has(fieldSyms) {
		w.list(len(c.Syms), func(i int) { w.form(c.Syms[i]) })
	}
	for _, p := range c.Pars {
		w.parameter(p)
	}
	if s.has(fieldData) {
		w.text.WriteString(" ")
		w.form(c.Data)
	}
	for _, kid := range c.Kids {
		w.text.WriteString(" ")
		w.node(kid)
	}
	w.text.WriteString(")")
}

// list writes so many elements between square brackets.
func (w *writer) list(length int, write func(i int)) {
	w.text.WriteString(" [")
	for i := range length {
		if i > 0 {
			w.text.WriteString(" ")
		}
		write(i)
	}
	w.text.WriteString("]")
}

func (w *writer) parameter(p api.Param) {
	w.text.WriteString(" {")
	for _, n := range []int{p.Kind, p.Var, p.Given} {
		w.text.WriteString(strconv.Itoa(n) + " ")
	}
	if p.Kind == api.ParamKey {
		w.form(p.Key)
	} else {
		w.text.WriteString(noKey)
	}
	w.text.WriteString("}")
}

// form writes the text of a form.
func (w *writer) form(f api.Form) {
	w.text.WriteString(strconv.Itoa(f.Kind) + ":")
	w.word(f.Home)
	w.text.WriteString(":")
	w.word(f.Text)
	if len(f.Kids) == 0 {
		return
	}
	for i, kid := range f.Kids {
		if i == 0 {
			w.text.WriteString("(")
		} else {
			w.text.WriteString(" ")
		}
		w.form(kid)
	}
	w.text.WriteString(")")
}

func (w *writer) word(s string) {
	const digits = "0123456789abcdef"
	for i := range len(s) {
		if isPlain(s[i]) {
			w.text.WriteByte(s[i])
			continue
		}
		w.text.Write([]byte{escape, digits[s[i]>>4], digits[s[i]&15]})
	}
}

// isPlain tells the bytes that stand for themselves.
func isPlain(b byte) bool {
	isLetter := b >= 'a' && b <= 'z' || b >= 'A' && b <= 'Z'
	return isLetter || isDigit(b) || strings.IndexByte(plainBytes, b) >= 0
}

func isDigit(b byte) bool { return b >= '0' && b <= '9' }
