package meaning

import (
	"strings"
	"testing"

	"commonform/api"
	"commonform/core"
	"commonform/forms"
	"commonform/heap"
	"commonform/lib"
	"commonform/printer"
	"commonform/reader"
)

const user = "COMMON-LISP-USER"

// lispNames are further symbols that the programs of the tests have of COMMON-LISP.
const lispNames = "QUOTE FUNCTION IF PROGN LET LET* SETQ BLOCK RETURN-FROM TAGBODY GO CATCH THROW UNWIND-PROTECT MULTIPLE-VALUE-CALL MULTIPLE-VALUE-PROG1 PROGV FLET LABELS LOCALLY THE LOAD-TIME-VALUE LAMBDA DECLARE SPECIAL &OPTIONAL &REST &KEY &AUX &ALLOW-OTHER-KEYS"

// tester has a world for tests.
type tester struct {
	*lib.World
	t *testing.T
}

func newTester(t *testing.T, limit int) tester {
	t.Helper()
	w, e := lib.New(limit, limit)
	if e != api.OK {
		t.Fatal(e)
	}
	for name := range strings.FieldsSeq(lispNames) {
		n, _, _ := w.Symbols().Intern(lisp, name)
		w.Symbols().Export(lisp, n)
	}
	return tester{World: w, t: t}
}

// read reads a form with the symbols of the world.
func (w tester) read(text string) api.Form {
	w.t.Helper()
	found, at, e := reader.One(reader.Standard(user), text)
	if e != api.OK {
		w.t.Fatalf("%s: %v at %d", text, e, at)
	}
	return w.known(found.Form)
}

func (w tester) known(f api.Form) api.Form {
	if f.Kind == api.FormSymbol && f.Home != "" {
		n, _, e := w.Symbols().Intern(f.Home, f.Text)
		if e == api.OK {
			name, home, _ := w.Symbols().Symbol(n)
			return forms.Symbol(home, name)
		}
	}
	var kids []api.Form
	for _, kid := range f.Kids {
		kids = append(kids, w.known(kid))
	}
	f.Kids = kids
	return f
}

// tree returns the core tree of a program.
func (w tester) tree(text string) api.Core {
	w.t.Helper()
	c, e := core.Convert(w.read(text), nil)
	if e != api.OK {
		w.t.Fatalf("%s: %v", text, e)
	}
	return c
}

// parse returns the core tree with a text.
func parse(t *testing.T, text string) api.Core {
	t.Helper()
	c, e := core.Parse(text)
	if e != api.OK {
		t.Fatalf("%s: %v", text, e)
	}
	return c
}

func (w tester) show(x heap.Word) string {
	w.t.Helper()
	f, e := w.Show(x)
	if e != api.OK {
		return "error " + e.Error()
	}
	text, e := printer.Text(f, true)
	if e != api.OK {
		return "error " + e.Error()
	}
	return text
}

func (w tester) shows(l []heap.Word) string {
	w.t.Helper()
	var words []string
	for _, x := range l {
		words = append(words, w.show(x))
	}
	return strings.Join(words, " ")
}

// told returns how a run ends.
func (w tester) told(end lib.End) string {
	w.t.Helper()
	switch end.Kind {
	case lib.EndValues:
		return w.shows(end.Values)
	case lib.EndFault:
		return strings.TrimSpace("!" + end.Fault.Type + " " + w.shows(end.Fault.Data))
	case lib.EndLimit:
		return "limit " + end.Code.Error()
	case lib.EndBad:
		return "bad " + end.Code.Error()
	}
	return "throw"
}

// run runs a program, and returns how it ends, behind what it has printed.
func (w tester) run(text string) string {
	w.t.Helper()
	before := len(w.Output())
	end, _ := Run(w.World, w.tree(text), api.MaxSteps)
	if printed := w.Output()[before:]; printed != "" {
		return "[" + printed + "] " + w.told(end)
	}
	return w.told(end)
}

// check compares what programs do with what is wanted, each in a new world.
func check(t *testing.T, wanted map[string]string) {
	t.Helper()
	for text, want := range wanted {
		if got := newTester(t, 20000).run(text); strings.TrimSpace(got) != want {
			t.Errorf("%s: %s; want %s", text, got, want)
		}
	}
}

func (w tester) symbol(name string) heap.Word {
	w.t.Helper()
	x, e := w.Symbol(user, name)
	if e != api.OK {
		w.t.Fatal(e)
	}
	return x
}

func fixnum(n int) heap.Word {
	x, _ := heap.Fix(int64(n))
	return x
}
