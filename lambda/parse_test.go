package lambda_test

import (
	"strconv"
	"strings"
	"testing"

	"commonform/api"
	"commonform/forms"
	"commonform/lambda"
)

// P18.1: what lambda lists say; those ahead of the bar are for functions, too.
func TestParse(t *testing.T) {
	for text, want := range map[string]string{
		"()": "", "(A)": "1a", "(A #:B)": "1a 1#:b", "(&OPTIONAL)": "", "(&OPTIONAL A)": "2a", "(A &OPTIONAL B (C) (D 1) (E (F 2) G))": "1a 2b 2c 2d=1 2e=(f 2)?g", "(&OPTIONAL (A NIL B))": "2a?b",
		"(&REST A)": "3a", "(&BODY A)": "3a", "(A &OPTIONAL &REST B)": "1a 3b", "(&KEY)": "keys", "(&KEY A)": "4a@:a keys", "(&KEY (A))": "4a@:a keys", "(&KEY (A 1 B) ((:C D)) ((E F) NIL G))": "4a@:a=1?b 4d@:c 4f@e?g keys", "(&KEY ((NIL A)) ((T B)) ((&REST C)))": "4a@nil 4b@t 4c@&rest keys",
		"(&KEY &ALLOW-OTHER-KEYS)": "keys allow", "(&REST A &KEY B &ALLOW-OTHER-KEYS &AUX C)": "3a 4b@:b 5c keys allow", "(&AUX)": "", "(&AUX A (B) (C 1) (D (QUOTE E)))": "5a 5b 5c=1 5d='e", "(A &OPTIONAL B &REST C &KEY D &AUX E)": "1a 2b 3c 4d@:d 5e keys",
	} {
		for _, macro := range []bool{false, true} {
			l, e := lambda.Parse(read(t, text), macro)
			if e != api.OK || describe(l) != want {
				t.Errorf("Parse(%s, %v) = %q, %v; want %q", text, macro, describe(l), e, want)
			}
		}
	}
	for text, want := range map[string]string{ // for macros alone
		"(&WHOLE A)": "6a", "(&WHOLE A B)": "6a 1b", "(&ENVIRONMENT A)": "7a", "(&WHOLE A &ENVIRONMENT B C)": "6a 7b 1c", "(A &ENVIRONMENT B C)": "1a 7b 1c", "(&OPTIONAL &ENVIRONMENT A B)": "7a 2b", "(&OPTIONAL A &ENVIRONMENT B C)": "2a 7b 2c", "(&REST A &ENVIRONMENT B)": "3a 7b", "(&KEY A &ENVIRONMENT B &ALLOW-OTHER-KEYS)": "4a@:a 7b keys allow", "(&KEY &ALLOW-OTHER-KEYS &ENVIRONMENT B &AUX C)": "7b 5c keys allow", "(&AUX A &ENVIRONMENT B C)": "5a 7b 5c", "(A &ENVIRONMENT B . C)": "1a 7b 3c",
		"(A . B)": "1a 3b", "(&OPTIONAL A . B)": "2a 3b", "((A))": "1(1a)", "(NIL)": "1()", "((A . B) C)": "1(1a 3b) 1c", "((A &OPTIONAL B) &OPTIONAL ((C) NIL D) ((E . F) G))": "1(1a 2b) 2(1c)?d 2(1e 3f)=g", "(&OPTIONAL (NIL 1))": "2()=1", "(((A) ((B))))": "1(1(1a) 1(1(1b)))",
		"(&KEY ((K (A B)) 1 C) ((L NIL)))": "4(1a 1b)@k=1?c 4()@l keys", "((&KEY A) (&KEY ((:A B))))": "1(4a@:a keys) 1(4b@:a keys)", "((&REST A &AUX B))": "1(3a 5b)", "(&KEY ((:|| (A))))": "4(1a)@:|| keys",
	} {
		l, e := lambda.Parse(read(t, text), true)
		if e != api.OK || describe(l) != want {
			t.Errorf("Parse(%s) = %q, %v; want %q", text, describe(l), e, want)
		}
		if l, e := lambda.Parse(read(t, text), false); e != api.ErrForm || len(l.Items) > 0 || l.Keys || l.Allow {
			t.Errorf("Parse(%s) for functions = %q, %v; want ErrForm", text, describe(l), e)
		}
	}
}

// P18.1: only symbols of COMMON-LISP are markers, and NIL and T; those of KEYWORD are no variables.
func TestNames(t *testing.T) {
	for _, name := range []string{"&REST", "&OPTIONAL", "NIL", "T", "A"} {
		for _, pack := range []string{"", "P", home} {
			if l, e := lambda.Parse(forms.List([]api.Form{forms.Symbol(pack, name)}), true); e != api.OK || len(l.Items) != 1 || l.Items[0].Pattern != nil {
				t.Errorf("%s of %s is no variable: %v", name, pack, e)
			}
		}
		if l, e := lambda.Parse(forms.List([]api.Form{forms.Symbol("KEYWORD", name)}), true); e != api.ErrForm {
			t.Errorf("%s of KEYWORD is a variable: %v", name, l)
		}
	}
}

// P18.1: what is no lambda list, also for macros.
func TestNoLists(t *testing.T) {
	for _, text := range strings.Split("1|A|\"A\"|#(A)|(1)|(\"A\")|(T)|(:A)|(A . 1)|(A . T)|(A . &REST)|(A . :B)|(&REST)|(&REST 1)|(&REST (A))|(&REST NIL)|(&REST &KEY)|(&REST A B)|(&REST A &REST B)|(&REST A &OPTIONAL B)|(&REST A . B)|(&KEY A . B)|(&AUX A . B)|(&REST &ENVIRONMENT A B)"+
		"|(&OPTIONAL A &OPTIONAL B)|(&OPTIONAL 1)|(&OPTIONAL NIL)|(&OPTIONAL (A 1 B C))|(&OPTIONAL (A . 1))|(&OPTIONAL (A 1 2))|(&OPTIONAL (A 1 NIL))|(&OPTIONAL (A 1 &REST))|(&OPTIONAL (1))|(&OPTIONAL (:A))"+
		"|(&KEY A &KEY B)|(&KEY 1)|(&KEY NIL)|(&KEY (A 1 B C))|(&KEY ((A)))|(&KEY ((A B C)))|(&KEY ((1 A)))|(&KEY ((A 1)))|(&KEY ((A . B)))|(&KEY (NIL))|(&KEY :A)|(&KEY A &OPTIONAL B)|(&KEY A &REST B)|(&KEY (A 1 T))"+
		"|(&ALLOW-OTHER-KEYS)|(A &ALLOW-OTHER-KEYS)|(&REST A &ALLOW-OTHER-KEYS)|(&KEY &ALLOW-OTHER-KEYS A)|(&KEY &ALLOW-OTHER-KEYS &ALLOW-OTHER-KEYS)|(&AUX &ALLOW-OTHER-KEYS)|(&AUX A &AUX B)|(&AUX A &KEY B)|(&AUX (A 1 2))|(&AUX (A . 1))|(&AUX 1)|(&AUX NIL)|(&AUX ((A)))"+
		"|(&WHOLE)|(&WHOLE 1)|(&WHOLE NIL)|(&WHOLE (A))|(&WHOLE &WHOLE)|(A &WHOLE B)|(&WHOLE A &WHOLE B)|(&ENVIRONMENT A &WHOLE B)|(&OPTIONAL &WHOLE A)|(&WHOLE &ENVIRONMENT A B)|(&ENVIRONMENT)|(&ENVIRONMENT (A))|(&ENVIRONMENT A &ENVIRONMENT B)|((&WHOLE A))|((A &ENVIRONMENT B))|(((&ENVIRONMENT B)))|(&OPTIONAL ((&WHOLE A)))"+
		"|((A . 1))|((:A))|((&REST))|#1=(A)|(#1=A)|(#1=A #1#)|(&OPTIONAL #1=(A))|((#1=A))", "|") {
		for _, macro := range []bool{false, true} {
			if l, e := lambda.Parse(read(t, text), macro); e != api.ErrForm || len(l.Items) > 0 || l.Keys || l.Allow {
				t.Errorf("Parse(%s, %v) = %q, %v; want ErrForm", text, macro, describe(l), e)
			}
		}
	}
}

// P18.1: variables and keys that occur twice, but only if all else is right; and the errors of forms ahead of all others.
func TestErrors(t *testing.T) {
	for text, want := range map[string]api.Errno{
		"(A A)": api.ErrTwice, "(A B &OPTIONAL (C 1 A))": api.ErrTwice, "(&OPTIONAL (A 1 A))": api.ErrTwice, "(A &REST A)": api.ErrTwice, "(&KEY A (B 1 A))": api.ErrTwice, "(A &AUX A)": api.ErrTwice, "(&AUX A A)": api.ErrTwice, "(#:A #:A)": api.ErrTwice, "(A #:A)": api.OK,
		"(&KEY A ((:A B)))": api.ErrTwice, "(&KEY ((K A)) ((K B)))": api.ErrTwice, "(&KEY ((K A)) ((:K B)))": api.OK, "(A A 1)": api.ErrForm, "(A A &REST)": api.ErrForm, "(&KEY ((K A)) ((K B)) 1)": api.ErrForm, "(A &OPTIONAL (B 1 B) &KEY &KEY)": api.ErrForm,
	} {
		for _, macro := range []bool{false, true} {
			if l, e := lambda.Parse(read(t, text), macro); e != want || e != api.OK && len(l.Items) > 0 {
				t.Errorf("Parse(%s, %v) = %q, %v; want %v", text, macro, describe(l), e, want)
			}
		}
	}
	for text, want := range map[string]api.Errno{"(A (A))": api.ErrTwice, "((A) (A))": api.ErrTwice, "(&WHOLE A A)": api.ErrTwice, "(&ENVIRONMENT A &REST A)": api.ErrTwice, "((A &KEY ((K B)) ((K C))))": api.ErrTwice, "((A . A))": api.ErrTwice, "((&KEY ((K A))) &KEY ((K B)))": api.OK, "((A A) 1)": api.ErrForm} {
		if _, e := lambda.Parse(read(t, text), true); e != want {
			t.Errorf("Parse(%s) = %v; want %v", text, e, want)
		}
	}
	for want, f := range map[api.Errno]api.Form{
		api.ErrForm:    {Kind: api.FormCons, Kids: []api.Form{{Kind: api.FormSymbol, Text: "A", Kids: []api.Form{forms.Nil()}}, forms.Nil()}},
		api.ErrSize:    {Kind: api.FormCons, Kids: make([]api.Form, api.MaxForm)},
		forms.ErrLabel: forms.List([]api.Form{{Kind: api.FormRef, Text: "1"}}),
	} {
		if _, e := lambda.Parse(f, true); e != want {
			t.Errorf("Parse of a wrong form: %v; want %v", e, want)
		}
	}
	if l := parse(t, "(&OPTIONAL (A #1=(B)) (C #1#))", false); describe(l) == "" || l.Items[1].Init.Kind != api.FormRef {
		t.Error("an init form may have a label")
	}
}

// P18.1: fields of items that nothing says.
func TestFields(t *testing.T) {
	l := parse(t, "(A &OPTIONAL B &REST C &KEY D &AUX E)", false)
	for _, x := range l.Items {
		isKey := x.Kind == lambda.Key
		if !forms.IsNil(x.Init) || x.Given.Kind != 0 || x.Pattern != nil || isKey != forms.Equal(x.Key, forms.Symbol("KEYWORD", "D")) || !isKey && !forms.Equal(x.Key, api.Form{}) {
			t.Errorf("%+v", x)
		}
	}
	if l := parse(t, "((A))", true); l.Items[0].Var.Kind != 0 || l.Items[0].Pattern == nil {
		t.Errorf("%+v", l.Items[0])
	}
}

// P18.1: the arity, and the variables.
func TestArity(t *testing.T) {
	for text, want := range map[string]struct {
		least, most int
		vars        string
	}{
		"()": {0, 0, ""}, "(A B)": {2, 2, "a b"}, "(A &OPTIONAL (B 1 C) &REST D)": {1, -1, "a b c d"}, "(&OPTIONAL A B)": {0, 2, "a b"}, "(A &OPTIONAL)": {1, 1, "a"}, "(A &KEY)": {1, -1, "a"}, "(&KEY ((K A) 1 B) &AUX C)": {0, -1, "a b c"}, "(A &AUX B (C 1))": {1, 1, "a b c"}, "(A . B)": {1, -1, "a b"},
		"(&WHOLE A (B (C D) &OPTIONAL ((E F) NIL G)) &ENVIRONMENT H)": {1, 1, "a b c d e f g h"}, "((&REST A) B)": {2, 2, "a b"},
	} {
		l := parse(t, text, true)
		var vars []string
		for _, f := range lambda.Variables(l) {
			vars = append(vars, show(f))
		}
		least, most := lambda.Arity(l)
		if least != want.least || most != want.most || strings.Join(vars, " ") != want.vars {
			t.Errorf("%s: Arity %d, %d, Variables %v; want %v", text, least, most, vars, want)
		}
	}
}

// P18.1: what Show refuses, and the smallest lists.
func TestShow(t *testing.T) {
	a := forms.Symbol(home, "A")
	item := func(kind int) lambda.Item { return lambda.Item{Kind: kind, Var: a, Init: forms.Nil()} }
	with := func(x lambda.Item, change func(x *lambda.Item)) lambda.Item { change(&x); return x }
	circle := lambda.List{Items: []lambda.Item{{Kind: lambda.Required}}}
	circle.Items[0].Pattern = &circle
	wide := &lambda.List{}
	for range 90 {
		wide = &lambda.List{Items: []lambda.Item{{Kind: lambda.Required, Pattern: wide}, {Kind: lambda.Required, Pattern: wide}}}
	}
	for i, l := range []lambda.List{
		{Allow: true}, {Items: []lambda.Item{item(lambda.Key)}}, {Items: []lambda.Item{item(lambda.Key)}, Keys: true}, {Items: []lambda.Item{item(0)}}, {Items: []lambda.Item{item(8)}}, {Items: []lambda.Item{item(lambda.Optional), item(lambda.Required)}}, {Items: []lambda.Item{item(lambda.Required), item(lambda.Required)}}, {Items: []lambda.Item{item(lambda.Required), item(lambda.Whole)}},
		{Items: []lambda.Item{{Kind: lambda.Required, Var: forms.Nil()}}}, {Items: []lambda.Item{{Kind: lambda.Optional, Var: a}}}, {Items: []lambda.Item{{Kind: lambda.Aux, Var: a}}}, {Items: []lambda.Item{{Kind: lambda.Required}}}, {Items: []lambda.Item{with(item(lambda.Required), func(x *lambda.Item) { x.Given = forms.Symbol(home, "B") })}}, {Items: []lambda.Item{with(item(lambda.Required), func(x *lambda.Item) { x.Init = a })}}, {Items: []lambda.Item{with(item(lambda.Required), func(x *lambda.Item) { x.Key = a })}}, {Items: []lambda.Item{with(item(lambda.Optional), func(x *lambda.Item) { x.Given = forms.Nil() })}},
		{Items: []lambda.Item{with(item(lambda.Required), func(x *lambda.Item) { x.Pattern = &lambda.List{} })}}, {Items: []lambda.Item{with(item(lambda.Rest), func(x *lambda.Item) { x.Var, x.Pattern = api.Form{}, &lambda.List{} })}}, {Items: []lambda.Item{{Kind: lambda.Required, Pattern: &lambda.List{Items: []lambda.Item{item(lambda.Whole)}}}}}, circle, *wide,
	} {
		if f, e := lambda.Show(l); e != api.ErrForm || f.Kind != 0 {
			t.Errorf("Show of the list %d = %s, %v; want ErrForm", i, show(f), e)
		}
		if f, n, e := lambda.Bind(l, forms.Nil(), nil, 5); e != api.ErrForm || f.Kind != 0 || n != 0 {
			t.Errorf("Bind of the list %d = %s, %d, %v; want ErrForm", i, show(f), n, e)
		}
		lambda.Variables(l) // which end
		lambda.Arity(l)
		lambda.Match(l, []api.Form{a, forms.List([]api.Form{forms.List([]api.Form{a})})})
	}
	for _, kind := range []int{lambda.Required, lambda.Rest} { // which have no init form, whatever is said for none
		if f, e := lambda.Show(lambda.List{Items: []lambda.Item{{Kind: kind, Var: a}}}); e != api.OK {
			t.Errorf("Show of an item of the kind %d: %s, %v", kind, show(f), e)
		}
	}
	many := []api.Form{marker("OPTIONAL")}
	for i := range api.MaxForm - 3 {
		many = append(many, forms.Symbol(home, "B"+strconv.Itoa(i)))
	}
	if l, e := lambda.Parse(forms.List(many), false); e != api.OK || len(l.Items) != len(many)-1 {
		t.Errorf("Parse of many parameters: %v", e)
	} else if f, e := lambda.Show(l); e != api.OK || !forms.Equal(f, forms.List(many)) {
		t.Errorf("Show of many parameters: %v", e)
	}
	long := make([]api.Form, api.MaxForm-2) // just as many as a form can have with a tail, and not with &REST
	for i := range long {
		long[i] = forms.Symbol(home, "B"+strconv.Itoa(i))
	}
	l, e := lambda.Parse(forms.Dotted(long, a), true)
	if e != api.OK {
		t.Fatal(e)
	}
	f, e := lambda.Show(l)
	if back, e2 := lambda.Parse(f, true); e != api.OK || e2 != api.OK || len(back.Items) != len(long)+1 {
		t.Errorf("Show of a long list: %v, %v", e, e2)
	}
}
