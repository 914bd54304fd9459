package loop

import (
	"commonform/api"
	"commonform/forms"
	"commonform/lisp"
	"commonform/place"
	"commonform/tree"
)

// failure is what reading panics with where the grammar does not go on.
type failure struct{}

// want fails if a condition does not hold.
func want(ok bool) {
	if !ok {
		panic(failure{})
	}
}

// read reads clauses.
func read(l []api.Form) (made []Clause, e api.Errno) {
	defer func() {
		if _, ok := recover().(failure); ok {
			made, e = nil, api.ErrForm
		}
	}()
	r := &reader{left: l}
	r.words, r.steps = r.clauseWords(), r.stepWords()
	for len(r.left) > 0 {
		made = append(made, r.clause())
	}
	return made, api.OK
}

// reader reads clauses from what is left of the elements of a form.
type reader struct {
	left         []api.Form
	words, steps map[string]func() Clause // what a clause, and what stands behind the variable of FOR, begins with
}

// word returns the next word, which is not taken.
func (r *reader) word() (string, bool) {
	if len(r.left) == 0 || r.left[0].Kind != api.FormSymbol {
		return "", false
	}
	return r.left[0].Text, true
}

// take takes the next element.
func (r *reader) take() api.Form {
	want(len(r.left) > 0)
	f := tree.Copy(r.left[0])
	r.left = r.left[1:]
	return f
}

// takes takes the next element, if it is one of some words.
func (r *reader) takes(words ...string) bool {
	word, ok := r.word()
	for _, w := range words {
		if ok && w == word {
			r.take()
			return true
		}
	}
	return false
}

// variable takes a variable.
func (r *reader) variable() api.Form {
	f := r.take()
	want(isVariable(f))
	return f
}

func isVariable(f api.Form) bool { return f.Kind == api.FormSymbol && !place.Constant(f) }

// lists takes all conses that follow.
func (r *reader) lists() []api.Form {
	var l []api.Form
	for len(r.left) > 0 && r.left[0].Kind == api.FormCons {
		l = append(l, r.take())
	}
	want(len(l) > 0)
	return l
}

// clause reads the next clause.
func (r *reader) clause() Clause { return r.by(r.words) }

// by reads what the next word says.
func (r *reader) by(words map[string]func() Clause) Clause {
	word, ok := r.word()
	next, there := words[word]
	want(ok && there)
	return next()
}

// clauseWords returns what reads a clause, by its first word.
func (r *reader) clauseWords() map[string]func() Clause {
	words := map[string]func() Clause{
		"NAMED": r.named, "WITH": r.with, "FOR": r.each, "AS": r.each,
	}
	add := func(next func(kind int) Clause, kind int, names ...string) {
		for _, name := range names {
			words[name] = func() Clause {
				r.take()
				return next(kind)
			}
		}
	}
	add(r.listed, Initially, "INITIALLY")
	add(r.listed, Finally, "FINALLY")
	add(r.listed, Do, "DO", "DOING")
	add(r.one, Repeat, "REPEAT")
	add(r.one, While, "WHILE")
	add(r.one, Until, "UNTIL")
	add(r.one, Always, "ALWAYS")
	add(r.one, Never, "NEVER")
	add(r.one, Thereis, "THEREIS")
	add(r.one, Return, "RETURN")
	add(r.gathered, Collect, "COLLECT", "COLLECTING")
	add(r.gathered, Append, "APPEND", "APPENDING")
	add(r.gathered, Sum, "SUM", "SUMING", "SUMMING") // ING behind SUM, and what Lisp has
	add(r.gathered, Count, "COUNT", "COUNTING")
	add(r.gathered, Maximize, "MAXIMIZE", "MAXIMIZING")
	add(r.gathered, Minimize, "MINIMIZE", "MINIMIZING")
	add(r.chosen, If, "IF", "WHEN")
	add(r.chosen, Unless, "UNLESS")
	return words
}

func (r *reader) named() Clause {
	r.take()
	f := r.take()
	want(f.Kind == api.FormSymbol)
	return Clause{Kind: Named, Var: f}
}

func (r *reader) with() Clause {
	r.take()
	c := Clause{Kind: With, Var: r.variable(), Forms: []api.Form{forms.Nil()}}
	if r.takes("=") {
		c.Forms = []api.Form{r.take()}
	}
	return c
}

func (r *reader) listed(kind int) Clause { return Clause{Kind: kind, Forms: r.lists()} }

func (r *reader) one(kind int) Clause { return Clause{Kind: kind, Forms: []api.Form{r.take()}} }

func (r *reader) gathered(kind int) Clause {
	c := r.one(kind)
	c.Var = forms.Nil()
	if r.takes("INTO") {
		c.Var = r.variable()
	}
	return c
}

func (r *reader) chosen(kind int) Clause {
	c := r.one(kind)
	c.Then = r.selectable()
	if r.takes("ELSE") {
		c.Else = r.selectable()
	}
	r.takes("END")
	return c
}

// selectable reads selectable clauses with AND between them.
func (r *reader) selectable() []Clause {
	var l []Clause
	for {
		c := r.clause()
		want(isSelectable(c.Kind))
		l = append(l, c)
		if !r.takes("AND") {
			return l
		}
	}
}

func isSelectable(kind int) bool { return kind >= Do && kind <= Return }

// each reads FOR.
func (r *reader) each() Clause {
	r.take()
	v := r.variable()
	c := r.by(r.steps)
	c.Var = v
	return c
}

// stepWords returns what reads the part of FOR behind its variable, by the first word.
func (r *reader) stepWords() map[string]func() Clause {
	pair := func(kind int, second string) func() Clause {
		return func() Clause {
			r.take()
			c := r.one(kind)
			if second != "" && r.takes(second) {
				c.Forms = append(c.Forms, r.take())
			}
			return c
		}
	}
	words := map[string]func() Clause{
		"IN": pair(In, "BY"), "ON": pair(On, "BY"), "ACROSS": pair(Across, ""), "=": pair(Equals, "THEN"),
	}
	for _, w := range prepositions {
		words[w.word] = r.numbers
	}
	return words
}

// Parts of an Arithmetic clause.
const (
	first = iota
	limit
	step
	how
	partsOfNumbers
)

// What the number in the part how is made of.
const (
	downward  = 2
	exclusive = 1
)

// prepositions are the words ahead of the parts of an Arithmetic clause.
var prepositions = [...]struct {
	word           string
	part           int
	up, down, open bool // it can only go up, or down; open: the limit is not reached
}{
	{"FROM", first, false, false, false}, {"UPFROM", first, true, false, false}, {"DOWNFROM", first, false, true, false},
	{"TO", limit, false, false, false}, {"UPTO", limit, true, false, false}, {"BELOW", limit, true, false, true},
	{"DOWNTO", limit, false, true, false}, {"ABOVE", limit, false, true, true}, {"BY", step, false, false, false},
}

// numbers reads an Arithmetic clause, each part of which may stand there once.
func (r *reader) numbers() Clause {
	l := []api.Form{lisp.Small(0), forms.Nil(), lisp.Small(1), {}}
	var there [partsOfNumbers]bool
	up, down, number := false, false, 0
next:
	for {
		for _, w := range prepositions {
			if r.takes(w.word) {
				want(!there[w.part])
				there[w.part] = true
				l[w.part] = r.take()
				up, down = up || w.up, down || w.down
				if w.open {
					number += exclusive
				}
				continue next
			}
		}
		break
	}
	want(!down || !up && there[first])
	if down {
		number += downward
	}
	l[how] = lisp.Small(number)
	return Clause{Kind: Arithmetic, Forms: l}
}
