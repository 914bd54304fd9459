package loop_test

import (
	"math/rand"
	"slices"
	"strconv"
	"strings"
	"testing"

	"commonform/api"
	"commonform/forms"
	"commonform/lisp"
	"commonform/loop"
)

// P24.1: the expansions of all clauses.
func TestMacro(t *testing.T) {
	for _, c := range []struct{ text, bindings, body, result string }{
		{"named a do (f)", "nil", "g0 (progn (f)) (go g0) g1", "nil"},
		{"with x with y = 2 do (f) (g)", "((x nil) (y 2))", "g0 (progn (f) (g)) (go g0) g1", "nil"},
		{"initially (a) do (f) finally (b) initially (c) finally (d) (e)", "nil", "(a) (c) g0 (progn (f)) (go g0) g1 (b) (d) (e)", "nil"},
		{"for x in l", "((g2 l) (x nil))", "g0 (if (atom g2) (go g1)) (setq x (car g2)) (setq g2 (cdr g2)) (go g0) g1", "nil"},
		{"for x in l by f", "((g2 l) (g3 f) (x nil))", "g0 (if (atom g2) (go g1)) (setq x (car g2)) (setq g2 (funcall g3 g2)) (go g0) g1", "nil"},
		{"for x on l", "((g2 l) (x nil))", "g0 (if (atom g2) (go g1)) (setq x g2) (setq g2 (cdr g2)) (go g0) g1", "nil"},
		{"for x on l by 'f", "((g2 l) (g3 'f) (x nil))", "g0 (if (atom g2) (go g1)) (setq x g2) (setq g2 (funcall g3 g2)) (go g0) g1", "nil"},
		{"for x across v", "((g2 v) (g3 0) (g4 (length g2)) (x nil))", "g0 (if (< g3 g4) nil (go g1)) (setq x (aref g2 g3)) (setq g3 (+ g3 1)) (go g0) g1", "nil"},
		{"for x = (f)", "((x nil))", "g0 (setq x (f)) (go g0) g1", "nil"},
		{"for x = 1 then (f)", "((g2 t) (x nil))", "g0 (setq x (if g2 1 (f))) (setq g2 nil) (go g0) g1", "nil"},
		{"for i from a", "((g2 a) (i nil))", "g0 (setq i g2) (setq g2 (+ g2 1)) (go g0) g1", "nil"},
		{"for i to 3 by 2", "((g2 0) (g3 3) (i nil))", "g0 (if (> g2 g3) (go g1)) (setq i g2) (setq g2 (+ g2 2)) (go g0) g1", "nil"},
		{"for i below n by k", "((g2 0) (g3 n) (g4 k) (i nil))", "g0 (if (>= g2 g3) (go g1)) (setq i g2) (setq g2 (+ g2 g4)) (go g0) g1", "nil"},
		{"for i from a by k", "((g2 a) (g3 k) (i nil))", "g0 (setq i g2) (setq g2 (+ g2 g3)) (go g0) g1", "nil"},
		{"for i from 9 downto 2 by 'q", "((g2 9) (g3 2) (i nil))", "g0 (if (< g2 g3) (go g1)) (setq i g2) (setq g2 (- g2 'q)) (go g0) g1", "nil"},
		{"for i from 9 above 2", "((g2 9) (g3 2) (i nil))", "g0 (if (<= g2 g3) (go g1)) (setq i g2) (setq g2 (- g2 1)) (go g0) g1", "nil"},
		{"for i downfrom 9", "((g2 9) (i nil))", "g0 (setq i g2) (setq g2 (- g2 1)) (go g0) g1", "nil"},
		{"repeat n", "((g2 n))", "g0 (if (< 0 g2) nil (go g1)) (setq g2 (- g2 1)) (go g0) g1", "nil"},
		{"while a until b", "nil", "g0 (if a nil (go g1)) (if b (go g1)) (go g0) g1", "nil"},
		{"always a never b", "nil", "g0 (if a nil (return-from nil nil)) (if b (return-from nil nil)) (go g0) g1", "t"},
		{"never b", "nil", "g0 (if b (return-from nil nil)) (go g0) g1", "t"},
		{"thereis a return b", "nil", "g0 (let* ((g2 a)) (if g2 (return-from nil g2))) (return-from nil b) (go g0) g1", "nil"},
		{"collect a append b", "((g2 nil))", "g0 (setq g2 (append g2 (list a))) (setq g2 (append g2 b)) (go g0) g1", "g2"},
		{"sum a count b", "((g2 0))", "g0 (setq g2 (+ g2 a)) (if b (setq g2 (+ g2 1))) (go g0) g1", "g2"},
		{"maximize a minimize b", "((g2 nil))", "g0 (let* ((g3 a)) (setq g2 (if g2 (max g2 g3) g3))) (let* ((g4 b)) (setq g2 (if g2 (min g2 g4) g4))) (go g0) g1", "g2"},
		{"collect a into x sum b into y collect c into x always d", "((x nil) (y 0))", "g0 (setq x (append x (list a))) (setq y (+ y b)) (setq x (append x (list c))) (if d nil (return-from nil nil)) (go g0) g1", "t"},
		{"with w if a sum b into x and maximize c into y else count d into z and append e", "((g2 nil) (x 0) (y nil) (z 0) (w nil))",
			"g0 (if a (progn (setq x (+ x b)) (let* ((g3 c)) (setq y (if y (max y g3) g3)))) (progn (if d (setq z (+ z 1))) (setq g2 (append g2 e)))) (go g0) g1", "g2"},
		{"if a do (b)", "nil", "g0 (if a (progn (progn (b))) (progn)) (go g0) g1", "nil"},
		{"unless a do (b) else return c", "nil", "g0 (if a (progn (return-from nil c)) (progn (progn (b)))) (go g0) g1", "nil"},
		{"unless a maximize b else minimize c", "((g2 nil))", "g0 (if a (progn (let* ((g4 c)) (setq g2 (if g2 (min g2 g4) g4)))) (progn (let* ((g3 b)) (setq g2 (if g2 (max g2 g3) g3))))) (go g0) g1", "g2"},
	} {
		f, _, e := loop.Macro(read(t, "(loop "+c.text+")"), 0)
		name := "nil"
		if strings.HasPrefix(c.text, "named") {
			name = "a"
		}
		want := read(t, "(block "+name+" (let* "+c.bindings+" (tagbody "+c.body+") "+c.result+"))")
		if e != api.OK || !forms.Equal(f, want) {
			t.Errorf("%s: %s, %v", c.text, show(f), e)
		}
	}
	for text, want := range map[string]string{
		"(loop)":                            "(block nil (tagbody g0 (go g0)))",
		"(loop (f) (g))":                    "(block nil (tagbody g0 (f) (g) (go g0)))",
		"(loop named a)":                    "(block a (let* nil (tagbody g0 (go g0) g1) nil))",
		"(loop named a always b return c)":  "(block a (let* nil (tagbody g0 (if b nil (return-from a nil)) (return-from a c) (go g0) g1) t))",
		"(loop named a never b thereis c)":  "(block a (let* nil (tagbody g0 (if b (return-from a nil)) (let* ((g2 c)) (if g2 (return-from a g2))) (go g0) g1) t))",
		"(loop collect a collect b into z)": "(block nil (let* ((g2 nil) (z nil)) (tagbody g0 (setq g2 (append g2 (list a))) (setq z (append z (list b))) (go g0) g1) g2))",
	} {
		if f, _, e := loop.Macro(read(t, text), 0); e != api.OK || !forms.Equal(f, read(t, want)) {
			t.Errorf("%s: %s, %v", text, show(f), e)
		}
	}
}

// P24.1: the order of errors, and limits.
func TestExpandErrors(t *testing.T) {
	isZero := func(f api.Form, n int) bool { return forms.Equal(f, api.Form{}) && n == 0 }
	if loop.ErrKind != 260 {
		t.Error(loop.ErrKind)
	}
	for _, c := range []struct {
		text  string
		fresh int
		want  api.Errno
	}{
		{"(list)", -1, api.ErrForm}, {"(loop . x)", -1, api.ErrForm}, {"(loop)", -1, api.ErrArg}, {"(loop foo)", -1, api.ErrArg},
		{"(loop collect 1 sum 2)", -1, api.ErrArg}, {"(loop foo)", 0, api.ErrForm}, {"(loop collect 1 sum 2)", 0, loop.ErrKind},
		{"(loop do (f) with x)", 0, api.ErrOrder}, {"(loop for i below nil)", 0, api.ErrForm}, {"(loop)", 1<<30 + 1, api.ErrArg},
		{"(loop)", 1 << 30, api.OK}, {"(loop do (f))", 1<<30 + 1, api.ErrArg}, {"(loop do (f))", 1 << 30, api.OK},
	} {
		if f, n, e := loop.Macro(read(t, c.text), c.fresh); e != c.want || e != api.OK && !isZero(f, n) {
			t.Errorf("%s: %v, expected %v", c.text, e, c.want)
		}
	}
	if f, n, e := loop.Macro(api.Form{Kind: 99}, -1); e != api.ErrForm || !isZero(f, n) {
		t.Error(e)
	}
	wrong, right := []loop.Clause{{Kind: 99}}, []loop.Clause{clause(loop.Do)}
	if f, n, e := loop.Expand(wrong, -1); e != api.ErrForm || !isZero(f, n) {
		t.Error(e)
	}
	for _, fresh := range []int{-1, 1<<30 + 1} {
		if f, n, e := loop.Expand(right, fresh); e != api.ErrArg || !isZero(f, n) {
			t.Error(e)
		}
	}
	long := loop.Clause{Kind: loop.Return, Forms: []api.Form{{Kind: api.FormVector, Kids: slices.Repeat([]api.Form{lisp.Small(1)}, 1900)}}}
	if _, _, e := loop.Expand([]loop.Clause{long}, 0); e != api.OK {
		t.Error(e)
	}
	if f, n, e := loop.Expand([]loop.Clause{long, long}, 0); e != api.ErrSize || !isZero(f, n) {
		t.Error(e)
	}
	deep := lisp.Small(1)
	for range 98 {
		deep = lisp.List(deep)
	}
	if f, n, e := loop.Macro(lisp.Call("LOOP", deep), 0); e != api.ErrSize || !isZero(f, n) {
		t.Error(e)
	}
	if _, _, e := loop.Macro(lisp.Call("LOOP", deep.Kids[0]), 0); e != api.OK {
		t.Error(e)
	}
	empty, n, e := loop.Expand(nil, 3)
	if e != api.OK || n != 5 || !forms.Equal(empty, read(t, "(block nil (let* nil (tagbody g3 (go g3) g4) nil))")) {
		t.Error(show(empty), n, e)
	}
}

// chooser makes random clauses whose forms are calls of MARK with numbers that ascend.
type chooser struct {
	*rand.Rand
	marks int
}

func (r *chooser) mark() api.Form {
	r.marks++
	return lisp.Call("MARK", lisp.Small(r.marks))
}

func (r *chooser) marksOf(n int) []api.Form {
	var l []api.Form
	for range n {
		l = append(l, r.mark())
	}
	return l
}

func (r *chooser) variable() api.Form { return symbol([]string{"X", "Y", "Z"}[r.Intn(3)]) }

func (r *chooser) front() loop.Clause {
	kind := loop.With + r.Intn(9)
	c := loop.Clause{Kind: kind, Forms: r.marksOf(1)}
	if kind == loop.With || kind >= loop.Arithmetic && kind < loop.Repeat {
		c.Var = r.variable()
	}
	switch kind {
	case loop.Arithmetic:
		c.Forms = append(c.Forms, r.mark(), r.mark(), lisp.Small(r.Intn(4)))
	case loop.In, loop.On, loop.Equals:
		c.Forms = append(c.Forms, r.marksOf(r.Intn(2))...)
	}
	return c
}

func (r *chooser) selectable(depth int) loop.Clause {
	kind := loop.Do + r.Intn(10)
	c := loop.Clause{Kind: kind, Forms: r.marksOf(1)}
	switch {
	case kind == loop.Collect || kind == loop.Append:
		c.Var = []api.Form{forms.Nil(), symbol("LIST-1"), symbol("LIST-2")}[r.Intn(3)]
	case kind == loop.Sum || kind == loop.Count:
		c.Var = symbol("NUMBER")
	case kind == loop.Maximize || kind == loop.Minimize:
		c.Var = symbol("EXTREME")
	case (kind == loop.If || kind == loop.Unless) && depth == 0:
		return loop.Clause{Kind: loop.Return, Forms: c.Forms}
	case kind == loop.If || kind == loop.Unless:
		for range 1 + r.Intn(2) {
			c.Then = append(c.Then, r.selectable(depth-1))
		}
		for range r.Intn(2) {
			c.Else = append(c.Else, r.selectable(depth-1))
		}
	}
	return c
}

func (r *chooser) clauses() []loop.Clause {
	r.marks = 0
	var l []loop.Clause
	if r.Intn(3) == 0 {
		l = append(l, loop.Clause{Kind: loop.Named, Var: symbol("NAME")})
	}
	for range r.Intn(4) {
		l = append(l, r.front())
	}
	for range r.Intn(4) {
		l = append(l, r.selectable(2))
	}
	return l
}

// elements returns the elements of a LOOP form with these clauses.
func elements(l []loop.Clause) []api.Form {
	var all []api.Form
	word := func(names ...string) {
		for _, name := range names {
			all = append(all, symbol(name))
		}
	}
	for _, c := range l {
		switch c.Kind {
		case loop.Arithmetic:
			words := [][]string{{"FROM", "TO"}, {"UPFROM", "BELOW"}, {"FROM", "DOWNTO"}, {"DOWNFROM", "ABOVE"}}[c.Forms[3].Text[0]-'0']
			all = append(all, symbol("FOR"), c.Var, symbol(words[0]), c.Forms[0], symbol(words[1]), c.Forms[1], symbol("BY"), c.Forms[2])
		case loop.In, loop.On, loop.Across, loop.Equals, loop.With:
			words := map[int][]string{loop.In: {"FOR", "IN", "BY"}, loop.On: {"AS", "ON", "BY"}, loop.Across: {"FOR", "ACROSS"}, loop.Equals: {"FOR", "=", "THEN"}, loop.With: {"WITH", "="}}[c.Kind]
			all = append(all, symbol(words[0]), c.Var, symbol(words[1]), c.Forms[0])
			if len(c.Forms) > 1 {
				all = append(all, symbol(words[2]), c.Forms[1])
			}
		default:
			word(strings.ToUpper(kinds[c.Kind]))
			all = append(all, c.Forms...)
			if c.Kind == loop.Named {
				all = append(all, c.Var)
			} else if c.Var.Kind != 0 && !forms.IsNil(c.Var) {
				all = append(all, symbol("INTO"), c.Var)
			}
		}
		for i, inner := range [][]loop.Clause{c.Then, c.Else} {
			for k, x := range inner {
				if i+k > 0 {
					word([]string{"AND", "ELSE"}[btoi(k == 0)])
				}
				all = append(all, elements([]loop.Clause{x})...)
			}
		}
		if len(c.Then) > 0 {
			word("END")
		}
	}
	return all
}

func btoi(b bool) int {
	if b {
		return 1
	}
	return 0
}

func marks(f api.Form) []int {
	if name, args, ok := lisp.Arguments(f); ok && name == "MARK" {
		n, _ := strconv.Atoi(args[0].Text)
		return []int{n}
	}
	var all []int
	for _, kid := range f.Kids {
		all = append(all, marks(kid)...)
	}
	return all
}

func shifted(f api.Form, by int) api.Form {
	if f.Kind == api.FormSymbol && f.Home == "%" {
		n, _ := strconv.Atoi(f.Text)
		return lisp.Fresh(n + by)
	}
	return changed(f, func(k api.Form) api.Form { return shifted(k, by) })
}

// P24.2 to P24.4: clauses are read as they were written; each form stands once in the expansion, those of the body in order; from another fresh on the numbers alone are others.
func TestClausesAndExpansions(t *testing.T) {
	r := &chooser{Rand: rand.New(rand.NewSource(24))}
	for range 3000 {
		l := r.clauses()
		f := lisp.Call("LOOP", elements(l)...)
		if len(l) > 0 {
			got, e := loop.Parse(f)
			if e != api.OK || describe(got) != describe(l) {
				t.Fatalf("%s: %s, expected %s, %v", show(f), describe(got), describe(l), e)
			}
		}
		made, next, e := loop.Expand(l, 4)
		if e != api.OK {
			t.Fatalf("%s: %v", describe(l), e)
		}
		all := marks(made)
		slices.Sort(all)
		for i, n := range all {
			if n != i+1 || len(all) != r.marks {
				t.Fatalf("%s: %s", describe(l), show(made))
			}
		}
		by := r.Intn(100)
		other, n, e := loop.Expand(l, 4+by)
		if e != api.OK || n != next+by || !forms.Equal(other, shifted(made, by)) {
			t.Fatalf("%s: %s", describe(l), show(other))
		}
		checkOrder(t, l, made)
	}
}

// checkOrder checks that bindings, and what stands in the body, are in the order of the clauses.
func checkOrder(t *testing.T, l []loop.Clause, made api.Form) {
	t.Helper()
	letStar := made.Kids[2]
	body, _ := lisp.Elements(letStar.Kids[2])
	first := slices.IndexFunc(body, func(f api.Form) bool { return forms.Equal(f, lisp.Fresh(4)) })
	last := slices.IndexFunc(body, func(f api.Form) bool { return forms.Equal(f, lisp.Fresh(5)) })
	isSwapped := strings.Contains(describe(l), "unless") // these have the forms of Else first
	for _, part := range [][]api.Form{{letStar.Kids[1]}, body[1:first], body[first:last], body[last:]} {
		if got := marks(lisp.List(part...)); !slices.IsSorted(got) && !isSwapped {
			t.Fatalf("%s: %s", describe(l), show(made))
		}
	}
}

// P24.1: nothing panics, whatever the arguments are.
func TestAnyForm(t *testing.T) {
	r := &chooser{Rand: rand.New(rand.NewSource(241))}
	words := strings.Fields("LOOP FOR IN BY = THEN FROM TO BELOW DOWNTO WITH DO COLLECT INTO IF ELSE AND END NAMED REPEAT X NIL")
	for range 20000 {
		f := lisp.Call("LOOP")
		for range r.Intn(9) {
			kid := symbol(words[r.Intn(len(words))])
			if r.Intn(4) == 0 {
				kid = []api.Form{lisp.Small(1), lisp.Call("F"), {}, {Kind: r.Intn(16)}}[r.Intn(4)]
			}
			f.Kids = slices.Insert(f.Kids, len(f.Kids)-1, kid)
		}
		made, n, e := loop.Macro(f, 0)
		if e == api.OK && (forms.Check(made) != api.OK || n < 1) || e != api.OK && made.Kind+n != 0 {
			t.Fatal(show(f), show(made), e)
		}
		loop.Simple(f)
		l, e := loop.Parse(f)
		if e != api.OK {
			continue
		}
		if made, n, e := loop.Expand(l, r.Intn(3)-1); e != api.OK && made.Kind+n != 0 {
			t.Fatal(show(f))
		}
	}
}
