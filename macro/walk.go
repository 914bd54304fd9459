package macro

import (
	"slices"

	"commonform/api"
	"commonform/core"
	"commonform/forms"
	"commonform/lib"
	"commonform/lisp"
	"commonform/meaning"
	"commonform/notation"
	"commonform/tree"
)

// Limits of an expansion.
const (
	maxCalls = 1000  // that are expanded
	maxSteps = 10000 // of a call of a macro's function
)

// walker expands all calls of macros in a form.
type walker struct {
	maker
	world    *lib.World
	table    Table
	standard map[string]standard
	calls    int // that were expanded so far
	size     int // the nodes of the whole form as it is now
}

func newWalker(w *lib.World, t Table, fresh int) *walker {
	return &walker{maker: maker{Counter: lisp.Counter{Next: fresh}}, world: w, table: t, standard: standardMacros()}
}

// whole expands a form that is no part of another one.
func (x *walker) whole(f api.Form) api.Form {
	outer := x.size
	defer func() { x.size = outer }()
	x.enter(f)
	made := x.form(f, position{depth: 1, isTop: true})
	x.enter(made)
	want(!hasLabels(made))
	return made
}

// enter fails if a form is no right one; otherwise this is the whole form now.
func (x *walker) enter(f api.Form) {
	x.size = 0
	x.measure(f, 1)
	want(forms.Check(f) == api.OK)
}

// measure counts the nodes of a form that stands so deep, and fails if it is too large or too deep.
func (x *walker) measure(f api.Form, depth int) {
	x.size++
	if depth > api.MaxDepth {
		fail(api.ErrDepth)
	}
	if x.size > api.MaxForm {
		fail(api.ErrSize)
	}
	for _, kid := range f.Kids {
		x.measure(kid, depth+1)
	}
}

func hasLabels(f api.Form) bool {
	return f.Kind == api.FormLabel || f.Kind == api.FormRef || slices.ContainsFunc(f.Kids, hasLabels)
}

// replaced puts a form in the place of another one. What it refers to may stand outside of it.
func (x *walker) replaced(f, made api.Form, p position) api.Form {
	nodes, _ := forms.Size(f)
	x.size -= nodes
	x.measure(made, p.depth)
	e := forms.Check(made)
	want(e == api.OK || e == forms.ErrLabel)
	return made
}

// count counts a call that is expanded.
func (x *walker) count() {
	if x.calls == maxCalls {
		fail(api.ErrDepth)
	}
	x.calls++
}

// expansion is what a name means that means a macro.
type expansion struct {
	lambda   *api.Core
	expander Expander
	standard standard
	topOnly  bool
}

// meaning returns what expands a list, if it is a call of a macro.
func (x *walker) meaning(f api.Form, s *scope) (expansion, bool) {
	if f.Kind != api.FormCons || !isSymbol(f.Kids[0]) || isSpecial(f.Kids[0]) {
		return expansion{}, false
	}
	name := f.Kids[0]
	if local := s.find(true, name); local != nil {
		return expansion{lambda: local.lambda}, local.lambda != nil
	}
	for _, m := range slices.Backward(x.table.Macros) {
		if forms.Equal(m.Name, name) {
			return expansion{lambda: &m.Lambda}, true
		}
	}
	if forms.Is(name, notation.Home, notation.Backquote) {
		return expansion{standard: (*maker).backquote}, true
	}
	if name.Home != lisp.Home {
		return expansion{}, false
	}
	for _, n := range x.table.Expanders {
		if n.Name == name.Text {
			return expansion{expander: n.Expand}, true
		}
	}
	made, there := x.standard[name.Text]
	return expansion{standard: made, topOnly: name.Text == defmacro || name.Text == declaim}, there
}

// once expands a call once.
func (x *walker) once(m expansion, f api.Form) api.Form {
	switch {
	case m.lambda != nil:
		return x.called(*m.lambda, f)
	case m.standard != nil:
		return m.standard(&x.maker, items(f)[1:])
	}
	made, next, e := safely(m.expander, tree.Copy(f), x.Next)
	must(e)
	x.Next = next
	return made
}

// safely calls an expander, which anybody may have made.
func safely(expand Expander, f api.Form, fresh int) (made api.Form, next int, e api.Errno) {
	defer func() {
		if recover() != nil {
			made, next, e = api.Form{}, 0, api.ErrArg
		}
	}()
	return expand(f, fresh)
}

// called returns what the function of a macro makes of the arguments of a call.
func (x *walker) called(function api.Core, f api.Form) api.Form {
	want(function.Op == api.CoreLambda)
	end, _ := meaning.Run(x.world, function, api.MaxSteps)
	wantValues(end)
	args, e := x.world.Build(forms.Dotted(f.Kids[1:len(f.Kids)-1], f.Kids[len(f.Kids)-1]))
	if e == api.ErrWords {
		panic(failure{end: lib.End{Kind: lib.EndLimit, Code: e}})
	}
	must(e)
	end, _ = meaning.Apply(x.world, end.Values[0], append(end.Values[:0:0], args), maxSteps)
	wantValues(end)
	if len(end.Values) == 0 {
		return forms.Nil()
	}
	shown, e := x.world.Show(end.Values[0])
	must(e)
	made, e := forms.Plain(shown)
	must(e)
	return made
}

// wantValues fails with an end that is not that of values.
func wantValues(end lib.End) {
	if end.Kind != lib.EndValues {
		panic(failure{end: end})
	}
}

// macroFunction returns the function of a macro.
func (x *walker) macroFunction(name, list api.Form, l []api.Form) api.Core {
	want(isSymbol(name))
	v := x.Fresh()
	bound := x.bind(list, v, blockBody(name, withoutText(l)))
	f := function(lisp.List(v), x.whole(bound))
	made, e := core.Convert(f, x.table.Specials)
	must(e)
	return made
}

// form expands a form that is evaluated.
func (x *walker) form(f api.Form, p position) api.Form {
	switch f.Kind {
	case api.FormSymbol:
		return x.symbol(f, p)
	case api.FormCons:
		return x.list(f, p)
	}
	return f
}

// forms expands forms, in order.
func (x *walker) forms(l []api.Form, p position) []api.Form {
	var all []api.Form
	for _, f := range l {
		all = append(all, x.form(f, p))
	}
	return all
}

func (x *walker) symbol(f api.Form, p position) api.Form {
	made, ok := p.scope.symbolMacro(f)
	if !ok {
		return f
	}
	x.count()
	return x.form(x.replaced(f, made, p), p)
}

// list expands a list: as long as it is a call of a macro, from the outside.
func (x *walker) list(f api.Form, p position) api.Form {
	if m, ok := x.meaning(f, p.scope); ok {
		want(p.isTop || !m.topOnly)
		x.count()
		return x.form(x.replaced(f, x.once(m, f), p), p)
	}
	l := items(f)
	head, args := l[0], l[1:]
	switch {
	case isSpecial(head):
		return x.special(f, head.Text, args, p)
	case head.Kind == api.FormCons:
		return lisp.List(append([]api.Form{x.lambdaForm(head, p.inside(1))}, x.forms(args, p.inside(1))...)...)
	}
	want(isFunctionName(head))
	return lisp.List(append([]api.Form{head}, x.forms(args, p.inside(1))...)...)
}
