package meaning

import (
	"math/rand"
	"slices"
	"strconv"
	"strings"
	"testing"

	"commonform/api"
	"commonform/core"
	"commonform/forms"
	"commonform/heap"
	"commonform/lib"
)

// maker makes random programs.
type maker struct {
	*rand.Rand
	next                      int
	vars, funs, blocks, marks []string
}

func (m *maker) name() string {
	m.next++
	return "V" + strconv.Itoa(m.next)
}

func (m *maker) one(l ...string) string { return l[m.Intn(len(l))] }

// within makes something while more names are known.
func within(names *[]string, more []string, made func() string) string {
	saved := *names
	*names = slices.Concat(saved, more)
	s := made()
	*names = saved
	return s
}

func (m *maker) atom() string {
	if len(m.vars) > 0 && m.Intn(2) == 0 {
		return m.one(m.vars...)
	}
	return m.one("0", "1", "2", "NIL", "T", ":K", "S", "U", "\"text\"", "(QUOTE (1 2))", "(QUOTE X)")
}

func (m *maker) some(depth, most int) string {
	var l []string
	for range m.Intn(most + 1) {
		l = append(l, m.form(depth))
	}
	return strings.Join(l, " ")
}

// form makes a program.
func (m *maker) form(depth int) string {
	if depth == 0 {
		return m.atom()
	}
	depth--
	a := func() string { return m.form(depth) }
	switch m.Intn(34) {
	case 0:
		return "(PROGN " + m.some(depth, 3) + ")"
	case 1, 2:
		return "(IF " + a() + " " + a() + " " + a() + ")"
	case 3, 4, 5:
		return m.let(depth)
	case 6:
		return "(SETQ " + m.one(append([]string{"S", "U"}, m.vars...)...) + " " + a() + ")"
	case 7, 8, 9:
		name := m.name()
		return within(&m.blocks, []string{name}, func() string { return "(BLOCK " + name + " " + m.some(depth, 3) + ")" })
	case 10, 11:
		return m.tagbody(depth)
	case 12, 13:
		return "(CATCH " + m.one("1", "2", "(QUOTE X)") + " " + m.some(depth, 2) + ")"
	case 14:
		return "(THROW " + m.one("1", "2", "(QUOTE X)") + " " + a() + ")"
	case 15, 16:
		return "(UNWIND-PROTECT " + a() + " " + "(PRINC " + strconv.Itoa(m.Intn(10)) + ") " + m.some(depth, 1) + ")"
	case 17:
		return "(MULTIPLE-VALUE-CALL (FUNCTION LIST) " + m.some(depth, 2) + ")"
	case 18:
		return "(MULTIPLE-VALUE-PROG1 " + a() + " " + m.some(depth, 2) + ")"
	case 19:
		return "(PROGV " + m.one("(QUOTE (S U))", "(QUOTE (S))", "(QUOTE (S S))", "(QUOTE (S 5))", "5") + " " + m.one("(LIST 1 2)", "(QUOTE (5))", "NIL", a()) + " " + m.some(depth, 2) + ")"
	case 20, 21:
		return m.functions(depth)
	case 22:
		return "(FUNCALL " + m.lambda(depth) + " " + m.arguments(depth) + ")"
	case 23:
		return m.lambda(depth)
	case 24, 25, 26:
		return m.jump(a)
	case 27:
		return "(VALUES " + m.some(depth, 2) + ")"
	case 28:
		return "(PRINC " + m.atom() + ")"
	case 29:
		return m.one("(CAR ", "(+ 1 ", "(CONSP ", "(NOWHERE ", "(FUNCALL ") + a() + ")"
	}
	if len(m.funs) > 0 {
		return "(" + m.one(m.funs...) + " " + m.arguments(depth) + ")"
	}
	return "(LIST " + m.some(depth, 2) + ")"
}

func (m *maker) arguments(depth int) string {
	return m.some(depth, 2) + m.one("", "", " :K 5", " :OTHER 1")
}

// jump leaves to something that is known.
func (m *maker) jump(a func() string) string {
	if len(m.marks) > 0 && m.Intn(3) == 0 {
		return "(GO " + m.one(m.marks...) + ")"
	}
	if len(m.blocks) > 0 {
		return "(RETURN-FROM " + m.one(m.blocks...) + " " + a() + ")"
	}
	return a()
}

func (m *maker) let(depth int) string {
	var bindings, names []string
	for range 1 + m.Intn(2) {
		v := m.name()
		if m.Intn(4) == 0 && len(names) == 0 {
			v = "S"
		}
		bindings = append(bindings, "("+v+" "+m.form(depth)+")")
		names = append(names, v)
	}
	body := within(&m.vars, names, func() string { return m.some(depth, 3) })
	declared := ""
	if names[0] == "S" && m.Intn(3) > 0 {
		declared = "(DECLARE (SPECIAL S)) "
	}
	return m.one("(LET (", "(LET* (") + strings.Join(bindings, " ") + ") " + declared + body + ")"
}

func (m *maker) tagbody(depth int) string {
	tags := []string{m.name(), m.name()}
	return within(&m.marks, tags, func() string {
		text := "(TAGBODY "
		for _, tag := range tags {
			text += "(PROGN " + m.some(depth, 2) + ") " + tag + " "
		}
		return text + "(PROGN " + m.some(depth, 1) + "))"
	})
}

// parameters makes a lambda list and its variables.
func (m *maker) parameters(depth int) (string, []string) {
	var names []string
	text := ""
	add := func() string {
		v := m.name()
		names = append(names, v)
		return v
	}
	init := func() string { return within(&m.vars, names, func() string { return m.form(depth) }) }
	for range m.Intn(2) {
		text += add() + " "
	}
	if m.Intn(2) == 0 {
		f := init()
		text += "&OPTIONAL (" + add() + " " + f + " " + add() + ") "
	}
	if m.Intn(3) == 0 {
		text += "&REST " + add() + " "
	}
	if m.Intn(3) == 0 {
		f := init()
		text += "&KEY ((:K " + add() + ") " + f + " " + add() + ") " + m.one("", "&ALLOW-OTHER-KEYS ")
	}
	return "(" + text + ")", names
}

func (m *maker) lambda(depth int) string {
	parameters, names := m.parameters(depth)
	return "(FUNCTION (LAMBDA " + parameters + " " + within(&m.vars, names, func() string { return m.some(depth, 2) }) + "))"
}

func (m *maker) functions(depth int) string {
	name := m.one("FLET", "LABELS")
	names := []string{m.name(), m.name()}
	var inner []string
	if name == "LABELS" {
		inner = names
	}
	definitions := within(&m.funs, inner, func() string {
		text := ""
		for _, f := range names {
			parameters, vars := m.parameters(depth)
			text += "(" + f + " " + parameters + " " + within(&m.vars, vars, func() string { return m.some(depth, 2) }) + ")"
		}
		return text
	})
	return "(" + name + " (" + definitions + ") " + within(&m.funs, names, func() string { return m.some(depth, 3) }) + ")"
}

// outcome is what is told of a run.
type outcome struct {
	told, output, s, u string
	steps              int
}

// eachProgram calls a function with trees of made programs.
func eachProgram(t *testing.T, times, depth int, f func(seed int64, c api.Core)) {
	t.Helper()
	w := newTester(t, 20000)
	failed := 0
	for seed := range int64(times) {
		m := &maker{Rand: rand.New(rand.NewSource(seed))}
		text := m.form(depth)
		if len(text) > api.MaxSource {
			failed++
			continue
		}
		c, e := core.Convert(w.read(text), nil)
		if e == api.ErrSize {
			failed++
			continue
		}
		if e != api.OK {
			t.Fatalf("%s: %v", text, e)
		}
		f(seed, c)
	}
	if failed > times/5 {
		t.Errorf("%d programs are too large", failed)
	}
}

// outcomeOf runs a tree in a new world.
func outcomeOf(t *testing.T, run func(w tester) (lib.End, int)) outcome {
	t.Helper()
	w := newTester(t, 40000)
	w.SetValue(w.symbol("U"), fixnum(7))
	end, steps := run(w)
	o := outcome{told: w.told(end), output: w.Output(), steps: steps}
	s, _ := w.Value(w.symbol("S"))
	u, _ := w.Value(w.symbol("U"))
	o.s, o.u = w.show(s), w.show(u)
	return o
}

func byMeaning(t *testing.T, c api.Core, steps int) outcome {
	t.Helper()
	return outcomeOf(t, func(w tester) (lib.End, int) { return Run(w.World, c, steps) })
}

func isLimit(o outcome) bool { return strings.HasPrefix(o.told, "limit") }

// P21.1, P21.3: a run does what the model does, step by step, with the same values, faults, output, and values of symbols.
func TestLikeTheModel(t *testing.T) {
	counts := map[string]int{}
	eachProgram(t, 1500, 6, func(seed int64, c api.Core) {
		got := byMeaning(t, c, 2000)
		want := outcomeOf(t, func(w tester) (lib.End, int) {
			m := &model{tester: w, most: 2000, constants: map[*api.Core]heap.Word{}}
			end := m.run(&c)
			return end, m.steps
		})
		if got.told == "limit 12" {
			return
		}
		if got != want {
			s, _ := core.Show(c)
			t.Fatalf("seed %d: %+v; want %+v\n%s", seed, got, want, s)
		}
		kind := "values"
		if strings.HasPrefix(got.told, "!") || isLimit(got) {
			kind, _, _ = strings.Cut(got.told, " ")
		}
		counts[kind]++
	})
	for _, kind := range []string{"values", "limit", "!CONTROL-ERROR", "!TYPE-ERROR", "!PROGRAM-ERROR", "!UNBOUND-VARIABLE"} {
		if counts[kind] < 20 {
			t.Errorf("%d runs end with %s: %v", counts[kind], kind, counts)
		}
	}
}

// P21.2: a renamed tree runs alike.
func TestRenamed(t *testing.T) {
	eachProgram(t, 400, 5, func(seed int64, c api.Core) {
		renamed, e := core.Renamed(c, int(seed%7)*1000+1)
		if e != api.OK {
			t.Fatal(e)
		}
		if a, b := byMeaning(t, c, 2000), byMeaning(t, renamed, 2000); a != b {
			t.Fatalf("seed %d: %+v, and renamed %+v", seed, a, b)
		}
	})
}

// P21.4: a run ends alike with any greater number of steps, and with ErrSteps with any lesser one.
func TestStepsLaw(t *testing.T) {
	eachProgram(t, 200, 5, func(seed int64, c api.Core) {
		full := byMeaning(t, c, 1000)
		if isLimit(full) {
			return
		}
		for _, more := range []int{0, 1, 1000} {
			if o := byMeaning(t, c, full.steps+more); o != full {
				t.Fatalf("seed %d with %d more steps: %+v; want %+v", seed, more, o, full)
			}
		}
		for n := max(full.steps-5, 0); n < full.steps; n++ {
			if o := byMeaning(t, c, n); o.told != "limit 10" || o.steps != n {
				t.Fatalf("seed %d with %d of %d steps: %+v", seed, n, full.steps, o)
			}
		}
	})
}

// P21.3: a cleanup whose form was begun is run once; behind a run that no limit ended bound symbols have their old values.
func TestCleanups(t *testing.T) {
	protects := 0
	eachProgram(t, 400, 5, func(seed int64, c api.Core) {
		marked := marking(c)
		o := byMeaning(t, marked, 4000)
		if isLimit(o) {
			return
		}
		begun, cleaned := strings.Count(o.output, "<"), strings.Count(o.output, ">")
		protects += begun
		if begun != cleaned {
			t.Fatalf("seed %d: %d forms are begun, and %d cleanups: %q", seed, begun, cleaned, o.output)
		}
	})
	if protects < 100 {
		t.Errorf("only %d cleanups", protects)
	}
	eachProgram(t, 300, 5, func(seed int64, c api.Core) {
		bound := api.Core{Op: api.CoreBind, Syms: []api.Form{forms.Symbol(user, "S"), forms.Symbol(user, "U")}, Kids: []api.Core{{Op: api.CoreConst, Data: forms.Nil()}, {Op: api.CoreConst, Data: forms.Nil()}, c}}
		if o := byMeaning(t, bound, 4000); !isLimit(o) && (o.s != "%::unbound" || o.u != "7") {
			t.Fatalf("seed %d: S is %s and U is %s", seed, o.s, o.u)
		}
	})
}

// marking returns a tree that prints < ahead of each protected form, and > at the beginning of each cleanup.
func marking(c api.Core) api.Core {
	var kids []api.Core
	for _, kid := range c.Kids {
		kids = append(kids, marking(kid))
	}
	c.Kids = kids
	if c.Op == api.CoreProtect {
		c.Kids = []api.Core{printing("<", kids[0]), printing(">", kids[1])}
	}
	return c
}

func printing(text string, c api.Core) api.Core {
	text1 := api.Core{Op: api.CoreConst, Data: api.Form{Kind: api.FormString, Text: text}}
	return api.Core{Op: api.CoreProgn, Kids: []api.Core{{Op: api.CoreCallGlobal, Data: forms.Symbol(lisp, "WRITE-STRING"), Kids: []api.Core{text1}}, c}}
}

// P21.5: a Progn of one form, and a Block that nobody leaves, change nothing; nor does the order of forms without effects.
func TestValuesLaw(t *testing.T) {
	effectless := []string{"(const 2::1)", "(const 1:COMMON-LISP:NIL)", "(callglobal 1:COMMON-LISP:LIST (const 2::1) (const 2::2))", "(lambda 0 (const 2::1))", "(if (const 2::1) (const 2::2) (const 2::3))"}
	same := func(seed int64, a, b outcome) {
		t.Helper()
		a.steps, b.steps = 0, 0
		if a != b && !isLimit(a) && !isLimit(b) {
			t.Fatalf("seed %d: %+v, and %+v", seed, a, b)
		}
	}
	eachProgram(t, 300, 5, func(seed int64, c api.Core) {
		o := byMeaning(t, c, 4000)
		same(seed, o, byMeaning(t, api.Core{Op: api.CoreProgn, Kids: []api.Core{c}}, 4000))
		same(seed, o, byMeaning(t, api.Core{Op: api.CoreBlock, N: 9999, Kids: []api.Core{c}}, 4000))
		x, y := parse(t, effectless[seed%5]), parse(t, effectless[(seed/5)%5])
		both := byMeaning(t, api.Core{Op: api.CoreProgn, Kids: []api.Core{x, y, c}}, 4000)
		same(seed, both, byMeaning(t, api.Core{Op: api.CoreProgn, Kids: []api.Core{y, x, c}}, 4000))
		same(seed, both, o)
	})
}
