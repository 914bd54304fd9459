package reader

import (
	"strings"

	"commonform/api"
	"commonform/forms"
	"commonform/notation"
	"commonform/token"
)

// quotedText reads a string.
func (r *reading) quotedText(int) api.Form {
	var text strings.Builder
	for {
		c := r.take()
		if c == '"' {
			return api.Form{Kind: api.FormString, Text: text.String()}
		}
		if r.kindOf(c) == token.Single {
			c = r.take()
		}
		text.WriteRune(c)
	}
}

func (r *reading) quote(int) api.Form {
	return forms.Call("QUOTE", []api.Form{r.form()})
}

func (r *reading) close(from int) api.Form {
	r.fail(from, ErrClose)
	return api.Form{}
}

func (r *reading) backquote(int) api.Form {
	return notation.Make(notation.Backquote, r.inLevel(r.level+1))
}

func (r *reading) comma(from int) api.Form {
	if r.level == 0 {
		r.fail(from, ErrComma)
	}
	name := notation.Comma
	if !r.ended() && r.next() == '@' {
		r.take()
		name = notation.Splice
	}
	return notation.Make(name, r.inLevel(r.level-1))
}

// inLevel reads a form with so many open backquotes.
func (r *reading) inLevel(level int) api.Form {
	saved := r.level
	r.level = level
	f := r.form()
	r.level = saved
	return f
}

func (r *reading) list(int) api.Form {
	l := r.contents(true)
	return forms.Dotted(l.items, l.tail)
}

// contents are what stands between brackets.
type contents struct {
	items    []api.Form
	tail     api.Form
	labelled bool // whether a label was defined in the last item
}

// contents reads up to the bracket that closes; only a list may have a dot.
func (r *reading) contents(dotted bool) contents {
	l := contents{tail: forms.Nil()}
	for {
		r.blank()
		if r.ended() {
			r.fail(r.at, api.ErrEnd)
		}
		if r.isMacro(')') {
			r.take()
			return l
		}
		if end, is := r.dot(); is {
			if !dotted || len(l.items) == 0 {
				r.fail(r.at, ErrDot)
			}
			l.tail = r.last(end)
			return l
		}
		known := len(r.labels)
		if f := r.begin(); !isLeftOut(f) {
			l.items = append(l.items, f)
			l.labelled = len(r.labels) > known
		}
	}
}

// dot reports whether a token that is a dot begins here, and where it ends. This is looked for ahead of all other tokens, since such a dot is no form, in whatever depth.
func (r *reading) dot() (int, bool) {
	if r.next() != '.' || r.kind() != token.Constituent {
		return 0, false
	}
	x, end, e := token.Next(r.options.Table, r.text, r.at)
	return end, e == api.OK && token.Dots(x) == 1
}

// last reads the tail of a list behind a dot, and the bracket.
func (r *reading) last(end int) api.Form {
	dot := r.at
	r.at = end
	tail := r.form()
	r.blank()
	if r.ended() {
		r.fail(r.at, api.ErrEnd)
	}
	if !r.isMacro(')') {
		r.fail(dot, ErrDot)
	}
	r.take()
	return tail
}
