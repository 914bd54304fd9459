package lambda_test

import (
	"math/rand"
	"slices"
	"testing"

	"commonform/api"
	"commonform/core"
	"commonform/forms"
	"commonform/lambda"
	"commonform/lib"
	"commonform/meaning"
)

// eachList calls a function with made lists, and what they say.
func eachList(t *testing.T, times int, f func(m *maker, macro bool, x made, l lambda.List)) {
	t.Helper()
	for seed := range int64(times) {
		m := &maker{Rand: rand.New(rand.NewSource(seed))}
		macro := seed%3 > 0
		x := m.list(macro, false, 2)
		l, e := lambda.Parse(x.list, macro)
		if e != api.OK {
			t.Fatalf("Parse(%s, %v): %v", show(x.list), macro, e)
		}
		f(m, macro, x, l)
	}
}

// P18.2: what Show returns says the same; no variable is there twice; and the variables are those that were made, in their order.
func TestThereAndBack(t *testing.T) {
	eachList(t, 2000, func(m *maker, macro bool, x made, l lambda.List) {
		f, e := lambda.Show(l)
		back, e2 := lambda.Parse(f, macro)
		if e != api.OK || e2 != api.OK || describe(back) != describe(l) {
			t.Fatalf("Show of %s is %s, %v, %v", show(x.list), show(f), e, e2)
		}
		var names, made []string
		for _, v := range lambda.Variables(l) {
			names = append(names, show(v))
		}
		for _, v := range x.vars {
			made = append(made, show(v.name))
		}
		if !slices.Equal(names, made) {
			t.Fatalf("Variables of %s: %v; want %v", show(x.list), names, made)
		}
	})
}

// P18.2: a key without a name, of a pattern that has none either.
func TestNamelessKey(t *testing.T) {
	l := parse(t, "(&KEY ((:|| (A))))", true)
	f, _ := lambda.Show(l)
	if back, e := lambda.Parse(f, true); e != api.OK || describe(back) != describe(l) {
		t.Errorf("Show = %s, %v", show(f), e)
	}
}

// P18.3: without patterns, whose errors are others, ErrSize is just for numbers of arguments that the arity has not.
func TestArityLaw(t *testing.T) {
	for seed := range int64(1000) {
		m := &maker{Rand: rand.New(rand.NewSource(seed))}
		x := m.list(seed%2 == 0, false, 0)
		l, _ := lambda.Parse(x.list, seed%2 == 0)
		least, most := lambda.Arity(l)
		for n := range 10 {
			args := make([]api.Form, n)
			for i := range args {
				args[i] = m.value()
			}
			_, e := lambda.Match(l, args)
			if fits := n >= least && (most < 0 || n <= most); fits != (e != api.ErrSize) {
				t.Fatalf("Match of %s with %d arguments: %v; the arity is %d, %d", show(x.list), n, e, least, most)
			}
		}
		if slices.ContainsFunc(l.Items, func(x lambda.Item) bool { return x.Kind == lambda.Rest }) && most != -1 {
			t.Fatalf("%s has at most %d arguments", show(x.list), most)
		}
	}
}

// P18.4: each variable is bound once, in order, to what was made for it.
func TestMatching(t *testing.T) {
	eachList(t, 3000, func(m *maker, macro bool, x made, l lambda.List) {
		args, _ := forms.Items(x.args)
		got, e := lambda.Match(l, args)
		var want []lambda.Binding
		for _, v := range x.vars {
			want = append(want, lambda.Binding{Var: v.name, Value: v.value, Missing: v.missing})
		}
		if e != api.OK || bound(got) != bound(want) {
			t.Fatalf("Match of %s with %s:\n%s, %v; want\n%s", show(x.list), show(x.args), bound(got), e, bound(want))
		}
	})
}

// P18.4: without all but required parameters the values are the arguments; further ones change only what &REST, &WHOLE and keys have.
func TestFurther(t *testing.T) {
	eachList(t, 1000, func(m *maker, macro bool, x made, l lambda.List) {
		args, _ := forms.Items(x.args)
		before, _ := lambda.Match(l, args)
		further := append(slices.Clone(args), forms.Symbol("KEYWORD", "ALLOW-OTHER-KEYS"), forms.Symbol("COMMON-LISP", "T"))
		after, e := lambda.Match(l, further)
		if e != api.OK {
			return
		}
		for i, b := range after {
			_, most := lambda.Arity(l)
			isOptional := most >= 0 || len(args) < most
			if isChanging(l, b.Var) || isOptional || len(args) < positions(l) {
				continue
			}
			if bound(after[i:i+1]) != bound(before[i:i+1]) {
				t.Fatalf("Match of %s with %s: %s, and with further ones: %s", show(x.list), show(x.args), bound(before), bound(after))
			}
		}
	})
	l := parse(t, "(A B C)", false)
	args := []api.Form{number(1), forms.Nil(), forms.List([]api.Form{number(2)})}
	b, _ := lambda.Match(l, args)
	for i := range args {
		if !forms.Equal(b[i].Value, args[i]) {
			t.Errorf("the value %d is %s", i, show(b[i].Value))
		}
	}
}

// isChanging tells the variables of &REST and &WHOLE.
func isChanging(l lambda.List, v api.Form) bool {
	return slices.ContainsFunc(l.Items, func(x lambda.Item) bool {
		return (x.Kind == lambda.Rest || x.Kind == lambda.Whole) && forms.Equal(x.Var, v)
	})
}

// positions returns how many arguments required and optional parameters take.
func positions(l lambda.List) int {
	n := 0
	for _, x := range l.Items {
		if x.Kind == lambda.Required || x.Kind == lambda.Optional {
			n++
		}
	}
	return n
}

// runner runs forms in a world.
type runner struct {
	t     *testing.T
	world *lib.World
}

func newRunner(t *testing.T) runner {
	t.Helper()
	w, e := lib.New(api.MaxWords, api.MaxWords)
	if e != api.OK {
		t.Fatal(e)
	}
	return runner{t: t, world: w}
}

// value returns the text of what a form evaluates to, or of its fault.
func (r runner) value(f api.Form) string {
	r.t.Helper()
	c, e := core.Convert(f, nil)
	if e != api.OK {
		r.t.Fatalf("%s: %v", show(f), e)
	}
	end, _ := meaning.Run(r.world, c, api.MaxSteps)
	words, text := end.Values, ""
	switch end.Kind {
	case lib.EndFault:
		words, text = end.Fault.Data, end.Fault.Type
	case lib.EndLimit, lib.EndBad:
		return "ended with " + end.Code.Error()
	}
	for _, x := range words {
		shared, _ := r.world.Show(x)
		y, _ := forms.Plain(shared)
		text += " " + show(y)
	}
	return text
}

const noFit = "UNDEFINED-FUNCTION %bad-form"

func listOf(l []api.Form) api.Form { return forms.Call("LIST", l) }

func quote(f api.Form) api.Form { return forms.Call("QUOTE", []api.Form{f}) }

// P18.1: a form of Bind does what Match says, with init forms where arguments are missing.
func TestBind(t *testing.T) {
	eachList(t, 700, func(m *maker, macro bool, x made, l lambda.List) {
		var names, want []api.Form
		for _, v := range x.vars {
			names, want = append(names, v.name), append(want, v.bound)
		}
		next := m.Intn(5)
		f, after, e := lambda.Bind(l, quote(x.args), []api.Form{listOf(names)}, next)
		if e != api.OK || !forms.Is(f.Kids[0], "COMMON-LISP", "LET*") || after <= next {
			t.Fatalf("Bind of %s: %s, %d, %v", show(x.list), show(f), after, e)
		}
		if got, want := newRunner(t).value(f), " "+show(forms.List(want)); got != want {
			t.Fatalf("Bind of %s to %s: %s; want %s", show(x.list), show(x.args), got, want)
		}
	})
}

// P18.1: where Match has an error, a form of Bind calls %BAD-FORM, ahead of all init forms of this list.
func TestBindErrors(t *testing.T) {
	errors := map[api.Errno]int{}
	eachList(t, 1500, func(m *maker, macro bool, x made, l lambda.List) {
		args, _ := forms.Items(x.args)
		args = m.change(args)
		_, e := lambda.Match(l, args)
		errors[e]++
		if e == api.OK {
			return
		}
		f, _, _ := lambda.Bind(l, quote(forms.List(args)), []api.Form{number(1)}, 0)
		if got := newRunner(t).value(f); got != noFit {
			t.Fatalf("Bind of %s to %s: %s; Match has %v", show(x.list), show(forms.List(args)), got, e)
		}
	})
	for _, e := range []api.Errno{api.OK, api.ErrSize, api.ErrForm, api.ErrNone} {
		if errors[e] < 20 {
			t.Errorf("%v came %d times", e, errors[e])
		}
	}
}

// change adds, drops or replaces arguments.
func (m *maker) change(args []api.Form) []api.Form {
	args = slices.Clone(args)
	for range 1 + m.Intn(2) {
		i := m.Intn(len(args) + 1)
		switch m.Intn(4) {
		case 0:
			args = slices.Insert(args, i, forms.Symbol("KEYWORD", "UNKNOWN"), m.value())
		case 1:
			args = slices.Delete(args, i, min(i+1, len(args)))
		case 2:
			args = append(args, m.value())
		case 3:
			if i < len(args) {
				args[i] = forms.Dotted([]api.Form{m.value()}, m.value())
			}
		}
	}
	return args
}

// P18.1: values that are no proper lists, in which order init forms are evaluated, declarations, and the numbers of fresh variables.
func TestBindExamples(t *testing.T) {
	for text, want := range map[string]string{
		"((A) 5 (LIST A))": noFit, "((&REST A) 5 (LIST A))": noFit, "((&OPTIONAL A) 5 (LIST A))": noFit, "(() 5 1)": noFit, "(() NIL 1)": " 1", "(() NIL)": " nil", "((&REST A) (QUOTE (1 . 2)) A)": " (1 . 2)", "((A . B) (QUOTE (1 . 2)) (LIST A B))": " (1 2)", "((A) (QUOTE (1 . 2)) A)": noFit, "((&OPTIONAL A B) (QUOTE (1 . 2)) A)": noFit, "((&OPTIONAL A B . C) (QUOTE (1 . 2)) (LIST A B C))": " (1 nil 2)",
		"((&KEY A) (QUOTE (:A 1 . 2)) A)": noFit, "((&KEY A) (QUOTE (:A . 2)) A)": noFit, "((&REST B &KEY A) (QUOTE (:A 1 . 2)) (LIST A B))": " (1 (:a 1 . 2))", "((&REST B &KEY A) (QUOTE (:A . 2)) A)": noFit, "((&WHOLE A &REST B) (LIST 1 2) (LIST A B))": " ((1 2) (1 2))",
		"((A &OPTIONAL (B (LIST A)) (C (LIST B))) (LIST 1) (LIST A B C))": " (1 (1) ((1)))", "((&OPTIONAL (A (PRINC 1)) &KEY (B (PRINC 2)) &AUX (C (PRINC 3))) NIL (LIST A B C))": " (1 2 3)", "(((A &OPTIONAL (B (PRINC 1))) C) (LIST (LIST 1)) A)": noFit,
		"((A B) (LIST 1 2) (DECLARE (SPECIAL A)) (LIST A B))": " (1 2)", "((A B C D E F G H I J) (LIST 1 2 3 4 5 6 7 8 9 10) J)": " 10", "((A B C D E F G &OPTIONAL H I J) (LIST 1 2 3 4 5 6 7 8) (LIST G H I J))": " (7 8 nil nil)", "((A B C D E F G H I J) (LIST 1 2 3 4 5 6 7 8 9) J)": noFit, "((A B C D E F G H I J) (LIST 1 2 3 4 5 6 7 8 9 10 11) J)": noFit,
	} {
		f := read(t, text)
		l, e := lambda.Parse(f.Kids[0], true)
		if e != api.OK {
			t.Fatalf("%s: %v", text, e)
		}
		made, _, e := lambda.Bind(l, f.Kids[1], f.Kids[2:len(f.Kids)-1], 0)
		r := newRunner(t)
		if got := r.value(made); e != api.OK || got != want {
			t.Errorf("%s: %s, %v; want %s", text, got, e, want)
		}
		if want == noFit && r.world.Output() != "" {
			t.Errorf("%s: init forms are evaluated ahead", text)
		}
	}
	l := parse(t, "(A &KEY B)", true)
	f, after, _ := lambda.Bind(l, forms.Nil(), nil, 7)
	from := map[string]bool{}
	fresh(f, from)
	if len(from) != after-7 || from["6"] || !from["7"] {
		t.Errorf("the fresh variables are %v, and %d is free", from, after)
	}
}

// fresh finds the names of fresh variables.
func fresh(f api.Form, names map[string]bool) {
	if f.Kind == api.FormSymbol && f.Home == "%" {
		names[f.Text] = true
	}
	for _, kid := range f.Kids {
		fresh(kid, names)
	}
}

// P18.1: as many parameters as a core tree can have bindings have a form.
func TestBindMany(t *testing.T) {
	var names, args []api.Form
	for i := range 85 {
		names, args = append(names, forms.Symbol(home, "V"+number(i).Text)), append(args, number(i))
	}
	l, _ := lambda.Parse(forms.List(names), true)
	f, _, e := lambda.Bind(l, quote(forms.List(args)), []api.Form{names[84]}, 0)
	if got := newRunner(t).value(f); e != api.OK || got != " 84" {
		t.Errorf("the last one of many: %s, %v", got, e)
	}
}

// R4: results share no memory with arguments, nor with one another.
func TestMemory(t *testing.T) {
	f := read(t, "(A &OPTIONAL (B (LIST 1) C))")
	l := parse(t, "(A &OPTIONAL (B (LIST 1) C))", false)
	shown, _ := lambda.Show(l)
	made, _, _ := lambda.Bind(l, read(t, "(LIST 1)"), []api.Form{read(t, "(LIST 2)")}, 0)
	args := []api.Form{read(t, "(1 2)")}
	b, _ := lambda.Match(l, args)
	text := show(made)
	l.Items[1].Init.Kids[0] = forms.Nil()
	args[0].Kids[0] = forms.Nil()
	if show(shown) != show(f) || show(made) != text || show(b[0].Value) != "(1 2)" {
		t.Error("a result has changed with an argument")
	}
}
