package macro_test

import (
	"math/rand"
	"slices"
	"strconv"
	"testing"

	"commonform/api"
	"commonform/core"
	"commonform/forms"
	"commonform/lib"
	"commonform/lisp"
	"commonform/macro"
)

// chooser makes random forms with right shapes.
type chooser struct{ *rand.Rand }

func (r chooser) name() api.Form { return symbol([]string{"X", "Y", "Z"}[r.Intn(3)]) }

// function returns a name of a function, also of macros that no other macro's expansion calls.
func (r chooser) function() api.Form {
	return symbol([]string{"F", "G", "WHEN", "UNLESS", "PROG2"}[r.Intn(5)])
}

func (r chooser) forms(most, depth int) []api.Form {
	var l []api.Form
	for range r.Intn(most + 1) {
		l = append(l, r.form(depth))
	}
	return l
}

func (r chooser) form(depth int) api.Form {
	if depth == 0 {
		return []api.Form{r.name(), lisp.Small(r.Intn(9)), forms.Nil(), lisp.Quote(r.name())}[r.Intn(4)]
	}
	switch r.Intn(5) {
	case 0:
		return r.special(depth - 1)
	case 1:
		return r.environment(depth - 1)
	case 2:
		return r.binder(depth - 1)
	}
	return r.plain(depth - 1)
}

// plain returns a call of a macro whose elements are forms.
func (r chooser) plain(depth int) api.Form {
	name := []string{"AND", "OR", "WHEN", "UNLESS", "PROG1", "PROG2", "COND", "CASE", "TYPECASE", "RETURN", "PSETQ", "NTH-VALUE", "MULTIPLE-VALUE-LIST", "F"}[r.Intn(14)]
	l := r.forms(3, depth)
	switch name {
	case "PROG1", "PROG2", "WHEN", "UNLESS":
		l = append(l, r.form(depth), r.form(depth))
	case "COND", "CASE", "TYPECASE":
		for i, f := range l {
			l[i] = lisp.List(append([]api.Form{f}, r.forms(2, depth)...)...)
		}
		if name != "COND" {
			l = append([]api.Form{r.form(depth)}, l...)
		}
	case "RETURN":
		return lisp.Call("BLOCK", forms.Nil(), lisp.Call("RETURN", r.form(depth)))
	case "PSETQ":
		l = []api.Form{r.name(), r.form(depth), r.name(), r.form(depth)}
	case "NTH-VALUE":
		l = []api.Form{lisp.Small(1), r.form(depth)}
	case "MULTIPLE-VALUE-LIST":
		l = []api.Form{r.form(depth)}
	}
	return lisp.Call(name, l...)
}

func (r chooser) binding(depth int) api.Form { return lisp.List(r.name(), r.form(depth)) }

// binder returns a call of a macro that binds variables.
func (r chooser) binder(depth int) api.Form {
	body := r.forms(2, depth)
	switch r.Intn(7) {
	case 0:
		return lisp.Body("DOLIST", r.binding(depth), body)
	case 1:
		return lisp.Body("DOTIMES", r.binding(depth), body)
	case 2:
		step := lisp.List(r.name(), r.form(depth), r.form(depth))
		return lisp.Body([]string{"DO", "DO*"}[r.Intn(2)], lisp.List(step), []api.Form{lisp.List(r.form(depth), r.form(depth))}, body)
	case 3:
		return lisp.Body("MULTIPLE-VALUE-BIND", lisp.List(r.name()), []api.Form{r.form(depth)}, body)
	case 4:
		return lisp.Body("DESTRUCTURING-BIND", lisp.List(symbol("X"), symbol("&OPTIONAL"), lisp.List(symbol("Y"), r.form(depth))), []api.Form{r.form(depth)}, body)
	case 5:
		return lisp.Body("DEFUN", r.function(), []api.Form{lisp.List(r.name())}, body)
	}
	return lisp.Body("PROG", lisp.List(r.binding(depth)), body)
}

// environment returns a form with local functions, local macros or symbol macros.
func (r chooser) environment(depth int) api.Form {
	body := r.forms(3, depth)
	switch r.Intn(5) {
	case 0, 1:
		fn := lisp.List(append([]api.Form{r.function(), lisp.List(symbol("&REST"), r.name())}, r.forms(2, depth)...)...)
		return lisp.Body([]string{"FLET", "LABELS"}[r.Intn(2)], lisp.List(fn), body)
	case 2:
		macro := lisp.List(r.function(), lisp.List(symbol("&REST"), symbol("ARGS")), lisp.Quote(r.form(0)))
		return lisp.Body("MACROLET", lisp.List(macro), body)
	case 3:
		return lisp.Body("SYMBOL-MACROLET", lisp.List(lisp.List(r.name(), lisp.Call("F", lisp.Small(1)))), body)
	}
	return lisp.Body("WITH-SLOTS", lisp.List(r.name()), []api.Form{r.form(depth)}, body)
}

func (r chooser) special(depth int) api.Form {
	body := r.forms(3, depth)
	switch r.Intn(6) {
	case 0:
		return lisp.Body([]string{"LET", "LET*"}[r.Intn(2)], lisp.List(r.binding(depth)), body)
	case 1:
		return lisp.Call("IF", r.form(depth), r.form(depth))
	case 2:
		return lisp.Call("SETQ", r.name(), r.form(depth))
	case 3:
		return lisp.Call("FUNCTION", lisp.Body("LAMBDA", lisp.List(r.name(), symbol("&AUX"), r.binding(depth)), body))
	case 4:
		return lisp.Call("TAGBODY", append([]api.Form{symbol("TAG"), lisp.Call("GO", symbol("TAG"))}, slices.DeleteFunc(body, func(f api.Form) bool { return f.Kind != api.FormCons })...)...)
	}
	return lisp.Body("EVAL-WHEN", lisp.List(forms.Symbol("KEYWORD", "EXECUTE")), body)
}

// findCall returns a call of a standard macro in an expanded form, or one of the forms that make environments.
func findCall(f api.Form, hidden map[string]bool) (api.Form, bool) {
	if f.Kind != api.FormCons {
		return f, false
	}
	l, _ := lisp.Elements(f)
	name := l[0].Text
	first := 1 // the first part that is evaluated
	inner := hidden
	switch name {
	case "QUOTE", "GO":
		return f, false
	case "MACROLET", "SYMBOL-MACROLET", "EVAL-WHEN":
		return f, true
	case "FUNCTION":
		if l[1].Kind != api.FormCons {
			return f, false
		}
		return findInFunction(l[1].Kids[1], l[1].Kids[2:], hidden)
	case "FLET", "LABELS":
		inner = map[string]bool{}
		for known := range hidden {
			inner[known] = true
		}
		functions, _ := lisp.Elements(l[1])
		for _, fn := range functions {
			inner[fn.Kids[0].Text] = true
		}
		for _, fn := range functions {
			around := hidden
			if name == "LABELS" {
				around = inner
			}
			if found, is := findInFunction(fn.Kids[1], fn.Kids[2:], around); is {
				return found, true
			}
		}
		first = 2
	case "LET", "LET*":
		bindings, _ := lisp.Elements(l[1])
		for _, b := range bindings {
			if found, is := findCall(lastPart(b), hidden); is {
				return found, true
			}
		}
		first = 2
	case "BLOCK", "RETURN-FROM":
		first = 2
	}
	if slices.Contains(macro.Standard(), name) && !hidden[name] {
		return f, true
	}
	for _, part := range l[first:] {
		if found, is := findCall(part, inner); is {
			return found, true
		}
	}
	return f, false
}

// lastPart returns the init form of a binding.
func lastPart(f api.Form) api.Form {
	if f.Kind != api.FormCons {
		return f
	}
	return f.Kids[len(f.Kids)-2]
}

func findInFunction(list api.Form, body []api.Form, hidden map[string]bool) (api.Form, bool) {
	params, _ := lisp.Elements(list)
	for _, p := range append(params, body...) {
		if i := slices.IndexFunc(params, func(f api.Form) bool { return forms.Equal(f, p) }); i >= 0 {
			p = lastPart(p)
		}
		if found, is := findCall(p, hidden); is {
			return found, true
		}
	}
	return api.Form{}, false
}

func shifted(f api.Form, by int) api.Form {
	if f.Kind == api.FormSymbol && f.Home == "%" {
		n, _ := strconv.Atoi(f.Text)
		return lisp.Fresh(n + by)
	}
	return changed(f, func(k api.Form) api.Form { return shifted(k, by) })
}

func renamed(f api.Form, from, to string) api.Form {
	if f.Kind == api.FormSymbol && f.Text == from {
		f.Text = to
	}
	return changed(f, func(k api.Form) api.Form { return renamed(k, from, to) })
}

// P22.2, P22.3: what All returns has no calls of macros, stays as it is, and can be converted; the numbers alone depend on fresh, and names of variables do not matter; expanding the outermost call ahead changes nothing.
func TestExpanded(t *testing.T) {
	r := chooser{rand.New(rand.NewSource(22))}
	w := newWorld(t)
	done := 0
	for range 700 {
		f := r.form(4)
		made, next, end := macro.All(w, macro.New(), f, 5)
		if end.Kind == lib.EndLimit || end.Kind == lib.EndBad && (end.Code == api.ErrSize || end.Code == api.ErrDepth) {
			w = newWorld(t)
			continue
		}
		if end.Kind != lib.EndValues {
			t.Fatalf("%s: %v", show(f), end)
		}
		done++
		if found, is := findCall(made, nil); is {
			t.Fatalf("%s: %s has %s", show(f), show(made), show(found))
		}
		again, n, end := macro.All(w, macro.New(), made, next)
		if end.Kind != lib.EndValues || n != next || !forms.Equal(again, made) {
			t.Fatalf("%s: %s, then %s, %v", show(f), show(made), show(again), end)
		}
		if _, e := core.Convert(made, nil); e != api.OK && e != api.ErrSize && e != api.ErrTwice {
			t.Fatalf("%s: %s: %v", show(f), show(made), e)
		}
		by := 1 + r.Intn(100)
		other, n, end := macro.All(w, macro.New(), f, 5+by)
		if end.Kind != lib.EndValues || n != next+by || !forms.Equal(other, shifted(made, by)) {
			t.Fatalf("%s: %s and %s", show(f), show(made), show(other))
		}
		other, n, end = macro.All(w, macro.New(), renamed(f, "X", "U"), 5)
		if end.Kind != lib.EndValues || n != next || !forms.Equal(other, renamed(made, "X", "U")) {
			t.Fatalf("%s: %s and %s", show(f), show(made), show(other))
		}
		if once, n, is, e := macro.Once(macro.New(), f, 5); is || e != api.OK {
			other, n, end := macro.All(w, macro.New(), once, n)
			if e != api.OK || end.Kind != lib.EndValues || n != next || !forms.Equal(other, made) {
				t.Fatalf("%s: %s and %s", show(f), show(made), show(other))
			}
		}
	}
	if done < 400 {
		t.Error(done)
	}
}

// P22.4: each standard macro can be hidden by a local function or macro, in its scope alone.
func TestHiding(t *testing.T) {
	w := newWorld(t)
	for _, name := range macro.Standard() {
		call := lisp.Call(name, lisp.Small(1))
		fn := lisp.List(symbol(name), read(t, "(&rest x)"), symbol("X"))
		for _, binder := range []string{"FLET", "LABELS"} {
			f := lisp.Call(binder, lisp.List(fn), call)
			if made, _, end := macro.All(w, macro.New(), f, 0); end.Kind != lib.EndValues || !forms.Equal(made, f) {
				t.Errorf("%s: %s, %v", show(f), show(made), end)
			}
		}
		f := lisp.Call("MACROLET", lisp.List(lisp.List(symbol(name), read(t, "(&rest x)"), lisp.Small(7))), call)
		if made, _, end := macro.All(w, macro.New(), f, 0); end.Kind != lib.EndValues || !forms.Equal(made, read(t, "(locally 7)")) {
			t.Errorf("%s: %s, %v", show(f), show(made), end)
		}
		behind := lisp.Call("PROGN", lisp.Call("FLET", lisp.List(fn), call), call)
		alone, _, wanted := macro.All(w, macro.New(), lisp.Call("PROGN", call), 0)
		made, _, end := macro.All(w, macro.New(), behind, 0)
		if end.Kind != wanted.Kind || end.Kind == lib.EndValues && !forms.Equal(made.Kids[2], alone.Kids[1]) {
			t.Errorf("%s: %s, %v", show(behind), show(made), end)
		}
	}
}

// P22.1: nothing panics, whatever the arguments are, and a right result is a right form without labels.
func TestAnyForm(t *testing.T) {
	r := rand.New(rand.NewSource(221))
	w := newWorld(t)
	names := append(macro.Standard(), "LET", "LET*", "FLET", "LABELS", "MACROLET", "SYMBOL-MACROLET", "EVAL-WHEN", "TAGBODY", "SETQ", "FUNCTION", "IF", "BLOCK", "THE", "M", "X", "NIL", "DECLARE", "&REST", "SETF")
	table := withMacros(t, w, macro.New(), "(defmacro m (x &rest y) (list* 'let (list (list x 1)) y))")
	var anything func(depth int) api.Form
	anything = func(depth int) api.Form {
		if depth == 0 || r.Intn(3) == 0 {
			return []api.Form{symbol(names[r.Intn(len(names))]), lisp.Small(r.Intn(3)), symbol("X"), {Kind: r.Intn(12), Text: "1"}}[min(r.Intn(40), 3)]
		}
		f := api.Form{Kind: api.FormCons}
		for range 1 + r.Intn(4) {
			f.Kids = append(f.Kids, anything(depth-1))
		}
		if r.Intn(4) > 0 {
			f.Kids = append([]api.Form{symbol(names[r.Intn(len(names))])}, f.Kids...)
		}
		return forms.Dotted(f.Kids, forms.Nil())
	}
	for range 8000 {
		f := anything(4)
		made, n, end := macro.All(w, table, f, 3)
		if end.Kind == lib.EndValues && (forms.Check(made) != api.OK || n < 3) || end.Kind != lib.EndValues && made.Kind+n != 0 {
			t.Fatal(show(f), show(made), end)
		}
		if end.Kind == lib.EndLimit {
			w = newWorld(t)
		}
		macro.Once(table, f, 3)
		macro.Define(w, table, f, 3)
	}
}
