package loop_test

import (
	"slices"
	"testing"

	"commonform/api"
	"commonform/forms"
	"commonform/lisp"
	"commonform/loop"
)

// P24.1, P24.2: the clauses of all words.
func TestParse(t *testing.T) {
	for _, c := range []struct{ text, want string }{
		{"named a", "named a []"}, {"named nil", "named nil []"},
		{"with x", "with x [nil]"}, {"with x = 5", "with x [5]"}, {"with x = = with y", "with x [=]; with y [nil]"},
		{"initially (a) (b) do (c)", "initially [(a) (b)]; do [(c)]"}, {"finally (a)", "finally [(a)]"},
		{"for x in l", "in x [l]"}, {"as x in l by f", "in x [l f]"}, {"for x on (l) by by", "on x [(l) by]"},
		{"for x across v", "across x [v]"}, {"for x = 1", "equals x [1]"}, {"for x = 1 then (f x)", "equals x [1 (f x)]"},
		{"for i from 1", "arithmetic i [1 nil 1 0]"}, {"for i upfrom 1", "arithmetic i [1 nil 1 0]"},
		{"for i downfrom 1", "arithmetic i [1 nil 1 2]"}, {"for i to 5", "arithmetic i [0 5 1 0]"},
		{"for i upto n", "arithmetic i [0 n 1 0]"}, {"for i below n", "arithmetic i [0 n 1 1]"},
		{"for i by 2", "arithmetic i [0 nil 2 0]"}, {"for i from 9 downto 1", "arithmetic i [9 1 1 2]"},
		{"for i from 9 above 1 by k", "arithmetic i [9 1 k 3]"}, {"for i downfrom 9 to 1", "arithmetic i [9 1 1 2]"},
		{"for i by k above 1 downfrom 9", "arithmetic i [9 1 k 3]"}, {"for i from from to to", "arithmetic i [from to 1 0]"},
		{"for i below nil", "arithmetic i [0 nil 1 1]"}, {"for i to nil", "arithmetic i [0 nil 1 0]"},
		{"repeat 3", "repeat [3]"}, {"while x until (y)", "while [x]; until [(y)]"},
		{"always x never y thereis z return r", "always [x]; never [y]; thereis [z]; return [r]"},
		{"do (a) (b) doing (c)", "do [(a) (b)]; do [(c)]"},
		{"collect x", "collect nil [x]"}, {"collecting x into y", "collect y [x]"}, {"collect into into into", "collect into [into]"},
		{"append x appending y into z", "append nil [x]; append z [y]"}, {"sum 1 suming 2 summing 3", "sum nil [1]; sum nil [2]; sum nil [3]"},
		{"count a counting b", "count nil [a]; count nil [b]"}, {"maximize a maximizing b", "maximize nil [a]; maximize nil [b]"},
		{"minimize a minimizing b", "minimize nil [a]; minimize nil [b]"},
		{"if a do (b)", "if [a] {do [(b)]}"}, {"when a return b end", "if [a] {return [b]}"},
		{"unless a sum b and do (c) (d) else collect e into f", "unless [a] {sum nil [b]; do [(c) (d)]} else {collect f [e]}"},
		{"if a if b do (c) else do (d)", "if [a] {if [b] {do [(c)]} else {do [(d)]}}"},
		{"if a if b do (c) end else do (d) end", "if [a] {if [b] {do [(c)]}} else {do [(d)]}"},
		{"if a do (b) and unless c do (d) and do (e) else do (f) and do (g)", "if [a] {do [(b)]; unless [c] {do [(d)]; do [(e)]} else {do [(f)]; do [(g)]}}"},
		{"sum 1 for x in l named b", "sum nil [1]; in x [l]; named b []"}, // the error of the clauses is not asked
	} {
		l, e := loop.Parse(read(t, "(loop "+c.text+")"))
		if e != api.OK || describe(l) != c.want {
			t.Errorf("%s: %s, %v", c.text, describe(l), e)
		}
	}
}

// P24.1: what cannot be read.
func TestParseErrors(t *testing.T) {
	for _, text := range []string{
		"5", "(do)", "(loop . x)", "(loop)", "(loop (f))", "(loop (f) (g))", "(other:loop do (f))",
		"(loop 5)", "(loop foo)", "(loop nil)", "(loop (f) do (g))", "(loop \"do\" (f))",
		"(loop named)", "(loop named 5)", "(loop named (a))", "(loop with)", "(loop with 5)", "(loop with nil)", "(loop with :k)",
		"(loop with x =)", "(loop with x 5)", "(loop initially)", "(loop initially x)", "(loop finally 5)", "(loop do)", "(loop do x)",
		"(loop for)", "(loop for x)", "(loop for 5 in l)", "(loop for (a b) in l)", "(loop for t in l)", "(loop for x of l)", "(loop for x (in) l)",
		"(loop for x in)", "(loop for x in l by)", "(loop for x on)", "(loop for x across)", "(loop for x across v by f)", "(loop for x =)", "(loop for x = 1 then)",
		"(loop for i from)", "(loop for i from 1 from 2)", "(loop for i from 1 upfrom 2)", "(loop for i to 1 below 2)", "(loop for i by 1 by 2)",
		"(loop for i downto 1)", "(loop for i above 1)", "(loop for i downfrom 1 below 2)", "(loop for i downfrom 1 upto 2)", "(loop for i upfrom 1 downto 0)",
		"(loop for i upfrom 1 above 0)", "(loop for i from 1 to)", "(loop repeat)", "(loop while)", "(loop return)", "(loop collect)", "(loop collect 1 into)",
		"(loop collect 1 into 5)", "(loop collect 1 into nil)", "(loop sum 1 into (a))", "(loop maximizeing 1)", "(loop whening 1)",
		"(loop if)", "(loop if x)", "(loop if x 5)", "(loop if x while y)", "(loop if x for y in z)", "(loop if x with y)", "(loop if x repeat 2)",
		"(loop if x do (f) and)", "(loop if x do (f) and while y)", "(loop if x do (f) else)", "(loop if x else do (f))", "(loop if x do (f) end end)",
		"(loop and do (f))", "(loop else do (f))", "(loop end)", "(loop into x)",
	} {
		if l, e := loop.Parse(read(t, text)); e != api.ErrForm || len(l) != 0 {
			t.Errorf("%s: %s, %v", text, describe(l), e)
		}
	}
	if l, e := loop.Parse(api.Form{Kind: 99}); e != api.ErrForm || len(l) != 0 {
		t.Error(e)
	}
	deep := lisp.Call("LOOP", lisp.List())
	for range 101 {
		deep = lisp.List(deep)
	}
	if _, e := loop.Parse(deep); e != api.ErrSize {
		t.Error(e)
	}
	if is, e := loop.Simple(deep); e != api.ErrSize || is {
		t.Error(e)
	}
}

// P24.1: which forms are simple.
func TestSimple(t *testing.T) {
	for text, want := range map[string]bool{"(loop)": true, "(loop (f))": true, "(loop (f) (g))": true, "(loop nil)": false, "(loop (f) x)": false, "(loop do (f))": false, "(loop #(a))": false} {
		if is, e := loop.Simple(read(t, text)); e != api.OK || is != want {
			t.Errorf("%s: %v, %v", text, is, e)
		}
	}
	for _, text := range []string{"5", "nil", "(list)", "(loop . 5)", "(loop (f) . x)", "((loop))", "loop"} {
		if is, e := loop.Simple(read(t, text)); e != api.ErrForm || is {
			t.Errorf("%s: %v", text, e)
		}
	}
}

// P24.2: words count by their Text alone.
func TestHomesOfWords(t *testing.T) {
	texts := []string{
		"(loop named a with x = 1 for i from 1 to 3 by 2 for y in l by f for z = 1 then 2 initially (f) while p do (g) finally (h))",
		"(loop repeat 2 if c collect x into y and sum 1 into z else unless d return 5 end)",
	}
	for _, text := range texts {
		f := read(t, text)
		moved := changed(f, func(k api.Form) api.Form {
			if k.Kind == api.FormSymbol && !forms.IsNil(k) && len(k.Text) > 1 {
				k.Home = ""
			}
			return k
		})
		moved.Kids[0] = f.Kids[0]
		a, e1 := loop.Parse(f)
		b, e2 := loop.Parse(moved)
		if e1 != api.OK || e2 != api.OK || describe(a) != describe(b) {
			t.Errorf("%s: %s and %s", text, describe(a), describe(b))
		}
	}
}

// clause returns a right clause of a kind.
func clause(kind int) loop.Clause {
	c := loop.Clause{Kind: kind, Forms: []api.Form{symbol("F")}}
	switch kind {
	case loop.Named:
		c.Var, c.Forms = symbol("N"), nil
	case loop.Initially, loop.Finally, loop.Do:
		c.Forms = []api.Form{lisp.Call("F")}
	case loop.Arithmetic:
		c.Var, c.Forms = symbol("V"), []api.Form{lisp.Small(0), forms.Nil(), lisp.Small(1), lisp.Small(0)}
	case loop.With, loop.In, loop.On, loop.Across, loop.Equals:
		c.Var = symbol("V")
	case loop.Collect, loop.Append, loop.Sum, loop.Count, loop.Maximize, loop.Minimize:
		c.Var = forms.Nil()
	case loop.If, loop.Unless:
		c.Then = []loop.Clause{{Kind: loop.Do, Forms: []api.Form{lisp.Call("F")}}}
	}
	return c
}

// P24.1: the parts that clauses of each kind must have.
func TestCheckParts(t *testing.T) {
	do := clause(loop.Do)
	for kind := loop.Named; kind <= loop.Return; kind++ {
		c := clause(kind)
		if e := loop.Check([]loop.Clause{c}); e != api.OK {
			t.Errorf("%d: %v", kind, e)
		}
		isGathering := kind >= loop.Collect && kind <= loop.Minimize
		var wrong []loop.Clause
		change := func(by func(c *loop.Clause)) {
			other := c
			other.Forms = slices.Clone(c.Forms)
			by(&other)
			wrong = append(wrong, other)
		}
		change(func(c *loop.Clause) { c.Var = lisp.Small(5) })
		change(func(c *loop.Clause) { c.Var = api.Form{Kind: api.FormSymbol, Text: "\xff"} })
		if kind != loop.Named {
			change(func(c *loop.Clause) { c.Var = lisp.Truth() })
			change(func(c *loop.Clause) { c.Forms = nil })
			change(func(c *loop.Clause) { c.Forms[0] = api.Form{} })
			change(func(c *loop.Clause) { c.Forms = make([]api.Form, 3) })
		} else {
			change(func(c *loop.Clause) { c.Forms = []api.Form{symbol("F")} })
		}
		if c.Var.Kind == 0 || isGathering {
			change(func(c *loop.Clause) { c.Var.Kids = []api.Form{symbol("F")} })
		} else {
			change(func(c *loop.Clause) { c.Var = api.Form{} })
		}
		if c.Var.Kind == 0 {
			change(func(c *loop.Clause) { c.Var = symbol("V") })
			change(func(c *loop.Clause) { c.Var.Text = "V" })
		}
		if kind != loop.If && kind != loop.Unless {
			change(func(c *loop.Clause) { c.Then = []loop.Clause{do} })
			change(func(c *loop.Clause) { c.Else = []loop.Clause{do} })
		} else {
			change(func(c *loop.Clause) { c.Then = nil; c.Else = []loop.Clause{do} })
			change(func(c *loop.Clause) { c.Then = []loop.Clause{clause(loop.While)} })
			change(func(c *loop.Clause) { c.Else = []loop.Clause{do, clause(loop.With)} })
			change(func(c *loop.Clause) { c.Then = []loop.Clause{{Kind: loop.Do}} })
			change(func(c *loop.Clause) { c.Then = []loop.Clause{{Kind: 26}} })
		}
		for _, w := range wrong {
			if e := loop.Check([]loop.Clause{w}); e != api.ErrForm {
				t.Errorf("%d: %v: %v", kind, w, e)
			}
		}
	}
	for _, kind := range []int{-1, 0, 26} {
		if e := loop.Check([]loop.Clause{{Kind: kind}, {Kind: kind, Var: symbol("V")}}); e != api.ErrForm {
			t.Error(kind, e)
		}
	}
}

// P24.1: numbers of forms, and the fourth part of Arithmetic.
func TestCheckForms(t *testing.T) {
	x, l := symbol("X"), lisp.Call("F")
	for kind, most := range map[int]int{loop.In: 2, loop.On: 2, loop.Equals: 2, loop.Across: 1, loop.With: 1, loop.Repeat: 1, loop.Collect: 1, loop.If: 1} {
		c := clause(kind)
		c.Forms = []api.Form{x, x}
		want := api.ErrForm
		if most == 2 {
			want = api.OK
		}
		if e := loop.Check([]loop.Clause{c}); e != want {
			t.Errorf("%d: %v", kind, e)
		}
	}
	for _, kind := range []int{loop.Do, loop.Initially, loop.Finally} {
		c := clause(kind)
		c.Forms = []api.Form{l, l, l}
		if e := loop.Check([]loop.Clause{c}); e != api.OK {
			t.Error(kind, e)
		}
		c.Forms = []api.Form{l, x}
		if e := loop.Check([]loop.Clause{c}); e != api.ErrForm {
			t.Error(kind, e)
		}
	}
	for _, c := range []struct {
		how   api.Form
		limit string
		want  api.Errno
	}{
		{lisp.Small(0), "NIL", api.OK}, {lisp.Small(2), "NIL", api.OK}, {lisp.Small(1), "N", api.OK}, {lisp.Small(3), "N", api.OK},
		{lisp.Small(1), "NIL", api.ErrForm}, {lisp.Small(3), "NIL", api.ErrForm}, {lisp.Small(4), "N", api.ErrForm},
		{lisp.Small(-1), "N", api.ErrForm}, {symbol("0"), "N", api.ErrForm}, {api.Form{Kind: api.FormString, Text: "0"}, "N", api.ErrForm},
	} {
		x := clause(loop.Arithmetic)
		x.Forms = []api.Form{symbol("A"), symbol(c.limit), symbol("K"), c.how}
		if e := loop.Check([]loop.Clause{x}); e != c.want {
			t.Errorf("%v: %v", c, e)
		}
		x.Forms = append(x.Forms, symbol("Z"))
		if e := loop.Check([]loop.Clause{x}); e != api.ErrForm {
			t.Error(e)
		}
	}
}

// P24.1: the order of clauses, and what results fit together.
func TestCheckOrder(t *testing.T) {
	for text, want := range map[string]api.Errno{
		"named a with x for y in l repeat 2 for z = 1 with w initially (f) finally (g)": api.OK,
		"do (f) initially (g) finally (h) repeat 2 while x":                             api.OK,
		"with x named a": api.ErrOrder, "named a named b": api.ErrOrder, "do (f) named a": api.ErrOrder,
		"do (f) with x": api.ErrOrder, "while p for x in l": api.ErrOrder, "collect 1 for i from 1": api.ErrOrder, "return 1 for x on l": api.ErrOrder,
		"if a do (b) for x across v": api.ErrOrder, "unless a do (b) for x = 1": api.ErrOrder, "until a with b": api.ErrOrder,
		"always a with b": api.ErrOrder, "never a with b": api.ErrOrder, "thereis a with b": api.ErrOrder,
		"initially (f) with x finally (g) for y in l": api.OK,
		"sum 1 for x in l collect 2":                  api.ErrOrder, // ahead of ErrKind
		"collect 1 append 2":                          api.OK, "sum 1 count 2": api.OK, "maximize 1 minimize 2": api.OK,
		"collect 1 sum 2": loop.ErrKind, "sum 1 maximize 2": loop.ErrKind, "append 1 minimize 2": loop.ErrKind, "count 1 collect 2": loop.ErrKind,
		"collect 1 into a sum 2": api.OK, "collect 1 into a sum 2 into b": api.OK, "collect 1 into a append 2 into a": api.OK,
		"collect 1 into a sum 2 into a": loop.ErrKind, "sum 1 into a if b maximize 2 into a": loop.ErrKind, "collect 1 into a collect 2 into other::a sum 3 into b": api.OK,
		"collect 1 into a sum 2 into other::a": api.OK,
		"if a collect 1 else sum 2":            loop.ErrKind, "if a if b collect 1 end else count 2": loop.ErrKind,
		"always a collect 1": loop.ErrKind, "never a sum 1": loop.ErrKind, "thereis a maximize 1": loop.ErrKind, "if a collect 1 end always b": loop.ErrKind,
		"always a collect 1 into b": api.OK, "always a never b thereis c": api.OK, "do (f) always a return 1": api.OK,
	} {
		l, e := loop.Parse(read(t, "(loop "+text+")"))
		if e != api.OK {
			t.Fatalf("%s: %v", text, e)
		}
		if e := loop.Check(l); e != want {
			t.Errorf("%s: %v, expected %v", text, e, want)
		}
	}
}

// P24.1: at most 200 clauses, those inside of others counted, ahead of all other errors.
func TestCheckSize(t *testing.T) {
	l := slices.Repeat([]loop.Clause{clause(loop.Do)}, 200)
	if e := loop.Check(l); e != api.OK {
		t.Error(e)
	}
	if e := loop.Check(append(l, loop.Clause{})); e != api.ErrSize {
		t.Error(e)
	}
	outer := clause(loop.If)
	outer.Then, outer.Else = slices.Repeat(l[:1], 100), slices.Repeat(l[:1], 99)
	if e := loop.Check([]loop.Clause{outer}); e != api.OK {
		t.Error(e)
	}
	if e := loop.Check([]loop.Clause{outer, {Kind: -1}}); e != api.ErrSize {
		t.Error(e)
	}
	ring := []loop.Clause{clause(loop.If)}
	ring[0].Then = ring
	if e := loop.Check(ring); e != api.ErrSize {
		t.Error(e)
	}
	if e := loop.Check(nil); e != api.OK {
		t.Error(e)
	}
}
