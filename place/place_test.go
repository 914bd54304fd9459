package place_test

import (
	"testing"

	"commonform/api"
	"commonform/forms"
	"commonform/lisp"
	"commonform/place"
)

// P23.1: the expansions of all macros.
func TestMacro(t *testing.T) {
	for _, c := range []struct{ text, want string }{
		{"(setf)", "nil"},
		{"(setf x 1)", "(setq x 1)"},
		{"(setf x 1 (car y) 2)", "(progn (setq x 1) (let* ((g0 y) (g1 2)) (progn (rplaca g0 g1) g1)))"},
		{"(setf (car x) y)", "(let* ((g0 x) (g1 y)) (progn (rplaca g0 g1) g1))"},
		{"(setf (car 'x) y)", "(let* ((g0 y)) (progn (rplaca 'x g0) g0))"},
		{"(setf (f) y)", "(let* ((g0 y)) (progn (|(SETF F)| g0) g0))"},
		{"(setf (f a 1 b) y)", "(let* ((g0 a) (g1 b) (g2 y)) (progn (|(SETF F)| g2 g0 1 g1) g2))"},
		{"(setf (nth n x) y)", "(let* ((g0 (nthcdr n x)) (g1 y)) (progn (rplaca g0 g1) g1))"},
		{"(setf (second x) y)", "(let* ((g0 (cdr x)) (g1 y)) (progn (rplaca g0 g1) g1))"},
		{"(setf (third x) y)", "(let* ((g0 (cdr (cdr x))) (g1 y)) (progn (rplaca g0 g1) g1))"},
		{"(setf (caar x) y)", "(let* ((g0 (car x)) (g1 y)) (progn (rplaca g0 g1) g1))"},
		{"(setf (cadr x) y)", "(let* ((g0 (cdr x)) (g1 y)) (progn (rplaca g0 g1) g1))"},
		{"(setf (cdar x) y)", "(let* ((g0 (car x)) (g1 y)) (progn (rplacd g0 g1) g1))"},
		{"(setf (cddr x) y)", "(let* ((g0 (cdr x)) (g1 y)) (progn (rplacd g0 g1) g1))"},
		{"(setf (the fixnum x) y)", "(let* ((g0 y)) (setq x g0))"},
		{"(setf (values) (f))", "(let* nil (multiple-value-bind nil (f) (values)))"},
		{"(setf (values a) (f))", "(let* ((g0 (f))) (values (setq a g0)))"},
		{"(setf (values a (car b)) (f))", "(let* ((g1 b)) (multiple-value-bind (g0 g2) (f) (values (setq a g0) (progn (rplaca g1 g2) g2))))"},
		{"(setf (symbol-value 'x) 1 (symbol-function f) g (slot-value o 's) 2)", "(progn (let* ((g0 1)) (progn (set 'x g0) g0)) (let* ((g1 f) (g2 g)) (progn (%fset g1 g2) g2)) (let* ((g3 o) (g4 2)) (progn (%set-slot-value g3 's g4) g4)))"},
		{"(psetf)", "(let* nil nil)"},
		{"(psetf a b (cdr b) a)", "(let* ((g0 b) (g1 b) (g2 a)) (setq a g0) (progn (rplacd g1 g2) g2) nil)"},
		{"(incf x)", "(let* ((g0 (+ x 1))) (setq x g0))"},
		{"(decf (car x) n)", "(let* ((g0 x) (g2 n) (g1 (- (car g0) g2))) (progn (rplaca g0 g1) g1))"},
		{"(incf (the fixnum x) :k)", "(let* ((g0 (+ (the fixnum x) :k))) (setq x g0))"},
		{"(push v (car x))", "(let* ((g0 v) (g1 x) (g2 (cons g0 (car g1)))) (progn (rplaca g1 g2) g2))"},
		{"(pushnew v x)", "(let* ((g0 v) (g2 x)) (if (member g0 g2) g2 (let* ((g1 (cons g0 g2))) (setq x g1))))"},
		{"(pop x)", "(let* ((g1 x) (g0 (cdr g1))) (setq x g0) (car g1))"},
		{"(rotatef)", "nil"},
		{"(rotatef x)", "(let* ((g0 x)) (setq x g0) nil)"},
		{"(rotatef a (car b) c)", "(let* ((g1 b) (g0 (car g1)) (g2 c) (g3 a)) (setq a g0) (progn (rplaca g1 g2) g2) (setq c g3) nil)"},
		{"(shiftf a 1)", "(let* ((g1 a) (g0 1)) (setq a g0) g1)"},
		{"(shiftf a (car b) (f))", "(let* ((g1 b) (g3 a) (g0 (car g1)) (g2 (f))) (setq a g0) (progn (rplaca g1 g2) g2) g3)"},
	} {
		f, _, e := place.Macro(place.Standard(), read(t, c.text), 0)
		if e != api.OK || !forms.Equal(f, read(t, c.want)) {
			t.Errorf("%s: %s, %v", c.text, show(f), e)
		}
	}
}

// P23.1: forms that are none of the macros', and places that are none.
func TestMacroErrors(t *testing.T) {
	l := place.Standard()
	if place.ErrPlace != 250 {
		t.Error(place.ErrPlace)
	}
	for text, want := range map[string]api.Errno{
		"5": api.ErrForm, "x": api.ErrForm, "nil": api.ErrForm, "(list 1)": api.ErrForm, "((setf) x)": api.ErrForm,
		"(setf . x)": api.ErrForm, "(setf x)": api.ErrForm, "(setf 5 1 x)": api.ErrForm, "(psetf 5)": api.ErrForm,
		"(incf)": api.ErrForm, "(incf x 1 2)": api.ErrForm, "(decf)": api.ErrForm, "(push x)": api.ErrForm,
		"(push 1 2 3)": api.ErrForm, "(pushnew 5)": api.ErrForm, "(pop)": api.ErrForm, "(pop x y)": api.ErrForm,
		"(shiftf)": api.ErrForm, "(shiftf 5)": api.ErrForm, "(other:setf x 1)": api.ErrForm, "(setf x 1 . y)": api.ErrForm,
		"(setf 5 1)": place.ErrPlace, "(setf nil 1)": place.ErrPlace, "(setf t 1)": place.ErrPlace, "(setf :k 1)": place.ErrPlace,
		"(setf \"x\" 1)": place.ErrPlace, "(setf (car . x) 1)": place.ErrPlace, "(setf (f . x) 1)": place.ErrPlace,
		"(setf (nth x) 1)": place.ErrPlace, "(setf (second) 1)": place.ErrPlace, "(setf (third x y) 1)": place.ErrPlace,
		"(setf (caar) 1)": place.ErrPlace, "(setf (the fixnum) 1)": place.ErrPlace, "(setf (the fixnum 5) 1)": place.ErrPlace,
		"(setf (values x 5) 1)": place.ErrPlace, "(setf (nil x) 1)": place.ErrPlace, "(setf (5 x) 1)": place.ErrPlace,
		"(setf ((lambda (x) x) 1) 1)": place.ErrPlace, "(psetf (values a b) 1)": place.ErrPlace, "(push 1 (values))": place.ErrPlace,
		"(pop (values a b))": place.ErrPlace, "(rotatef x 5)": place.ErrPlace, "(rotatef (values a b) x)": place.ErrPlace,
		"(shiftf 5 1)": place.ErrPlace, "(decf (values a b))": place.ErrPlace, "(pushnew 1 5)": place.ErrPlace,
	} {
		f, n, e := place.Macro(l, read(t, text), 0)
		if e != want || !isZero(f, n) {
			t.Errorf("%s: %v, expected %v", text, e, want)
		}
	}
	if f, _, e := place.Macro(l, read(t, "(setf (quote x) 1)"), 0); e != api.OK || show(f) != show(read(t, "(let* ((g0 x) (g1 1)) (progn (|(SETF QUOTE)| g1 g0) g1))")) {
		t.Errorf("a call of QUOTE: %s, %v", show(f), e)
	}
}

// P23.1: the order of errors, and limits.
func TestMacroLimits(t *testing.T) {
	l, wrong := place.Standard(), api.Form{Kind: 99}
	good := read(t, "(setf x 1)")
	for _, c := range []struct {
		f     api.Form
		fresh int
		want  api.Errno
	}{
		{wrong, -1, api.ErrForm}, {nested(101), -1, api.ErrSize}, {good, -1, api.ErrArg}, {good, 1<<30 + 1, api.ErrArg},
		{good, 1 << 30, api.OK}, {good, 0, api.OK}, {read(t, "(foo)"), -1, api.ErrArg},
		{lisp.Call("SETF", symbol("X"), vector(1995)), 0, api.OK}, // 2000 nodes
		{lisp.Call("INCF", lisp.Call("CAR", symbol("X")), vector(1990)), 0, api.ErrSize},
		{lisp.Call("SETF", lisp.Call("CAR", symbol("X")), nested(97)), 0, api.OK},
		{lisp.Call("SETF", lisp.Call("CAR", symbol("X")), nested(98)), 0, api.ErrSize},
		{read(t, "(setf (f #1=(a)) #1#)"), 0, api.ErrSize}, // the label stands twice
		{read(t, "(setf x #1=(a #1#))"), 0, api.OK},
	} {
		f, n, e := place.Macro(l, c.f, c.fresh)
		if e != c.want || e != api.OK && !isZero(f, n) {
			t.Errorf("%.60s: %v, expected %v", show(c.f), e, c.want)
		}
	}
	if p, n, e := place.Expand(l, wrong, -1); e != api.ErrForm || !isZeroPlace(p, n) {
		t.Error(e)
	}
	if p, n, e := place.Expand(l, symbol("X"), -1); e != api.ErrArg || !isZeroPlace(p, n) {
		t.Error(e)
	}
	if p, n, e := place.Expand(l, lisp.Small(5), 0); e != place.ErrPlace || !isZeroPlace(p, n) {
		t.Error(e)
	}
	if p, n, e := place.Expand(l, read(t, "(car #1=(f (g #1#)))"), 0); e != api.OK || n != 1 || len(p.Temps) != 0 {
		t.Error(p, n, e) // what has a label is no cons, so that it counts as a constant
	}
	if p, n, e := place.Expand(l, read(t, "(aref #1=(f) (g #1#))"), 0); e != api.ErrSize || !isZeroPlace(p, n) {
		t.Error(p, e) // the second subform alone refers to nothing
	}
	if p, n, e := place.Expand(l, lisp.Call("F", vector(1996)), 0); e != api.ErrSize || !isZeroPlace(p, n) {
		t.Error(e)
	}
}

// P23.1: Standard and Define; the last writer of a reader counts.
func TestWriters(t *testing.T) {
	l := place.Standard()
	want := "car rplaca cdr rplacd first rplaca rest rplacd aref %aset svref %aset gethash %puthash symbol-value set symbol-function %fset fdefinition %fset slot-value %set-slot-value"
	text := ""
	for _, w := range l {
		text += " " + show(w.Reader) + " " + show(w.Writer)
	}
	if text != " "+want {
		t.Error(text)
	}
	more, e := place.Define(l, read(t, "(defsetf car put)"))
	if e != api.OK || len(more) != 12 || len(l) != 11 {
		t.Fatal(len(more), e)
	}
	more[0].Reader.Text = "CHANGED"
	if l[0].Reader.Text != "CAR" {
		t.Error("memory is shared")
	}
	for text, want := range map[string]string{
		"(setf (car x) 1)":  "(let* ((g0 x) (g1 1)) (progn (put g0 g1) g1))",
		"(setf (cadr x) 1)": "(let* ((g0 (cdr x)) (g1 1)) (progn (put g0 g1) g1))",
	} {
		f, _, e := place.Macro(more, read(t, text), 0)
		if e != api.OK || !forms.Equal(f, read(t, want)) {
			t.Errorf("%s: %s, %v", text, show(f), e)
		}
	}
	for _, text := range []string{"5", "(defsetf)", "(defsetf a)", "(defsetf a b c)", "(defsetf a . b)", "(defsetf nil b)", "(defsetf a t)", "(defsetf :a b)", "(defsetf (a) b)", "(defsetf a 5)", "(setf a b)"} {
		if l, e := place.Define(l, read(t, text)); e != api.ErrForm || len(l) != 0 {
			t.Errorf("%s: %v", text, e)
		}
	}
	if l, e := place.Define(l, nested(101)); e != api.ErrSize || len(l) != 0 {
		t.Error(e)
	}
}

// P23.1: a writer of a name that has a place of its own comes ahead; without one for CAR there is none for NTH.
func TestOrderOfSorts(t *testing.T) {
	own, _ := place.Define(nil, read(t, "(defsetf the put)"))
	f, _, e := place.Macro(own, read(t, "(setf (the a b c) 1)"), 0)
	if e != api.OK || !forms.Equal(f, read(t, "(let* ((g0 a) (g1 b) (g2 c) (g3 1)) (progn (put g0 g1 g2 g3) g3))")) {
		t.Error(show(f), e)
	}
	for _, text := range []string{"(setf (nth 1 x) 2)", "(setf (second x) 2)", "(setf (cddr x) 2)"} {
		if _, _, e := place.Macro(own, read(t, text), 0); e != place.ErrPlace {
			t.Errorf("%s: %v", text, e)
		}
	}
	f, _, e = place.Macro(own, read(t, "(setf (car x) 2)"), 0)
	if e != api.OK || !forms.Equal(f, read(t, "(let* ((g0 x) (g1 2)) (progn (|(SETF CAR)| g1 g0) g1))")) {
		t.Error(show(f), e)
	}
	other := []place.Writer{{Reader: lisp.List(symbol("A")), Writer: symbol("PUT")}} // what is Equal counts, even if it is no symbol
	f, _, e = place.Macro(other, read(t, "(setf ((a) x) 2)"), 0)
	if e != api.OK || !forms.Equal(f, read(t, "(let* ((g0 x) (g1 2)) (progn (put g0 g1) g1))")) {
		t.Error(show(f), e)
	}
}

// P23.1: Constant and Fresh.
func TestConstantAndFresh(t *testing.T) {
	for _, text := range []string{"5", "1/2", "\"x\"", "#\\a", "#(a b)", "nil", "t", ":k", "'x", "'(a b)"} {
		if !place.Constant(read(t, text)) {
			t.Error(text)
		}
	}
	for _, text := range []string{"x", "(f)", "(quote)", "(quote a b)", "(quote . a)", "(other:quote x)", "other:nil", "other::t"} {
		if place.Constant(read(t, text)) {
			t.Error(text)
		}
	}
	for _, f := range []api.Form{{Kind: api.FormCons}, {Kind: api.FormCons, Kids: []api.Form{symbol("QUOTE")}}} {
		if place.Constant(f) {
			t.Error(f)
		}
	}
	if !place.Constant(api.Form{}) || !forms.Equal(place.Fresh(-3), forms.Symbol("%", "-3")) || !forms.Equal(place.Fresh(12), forms.Symbol("%", "12")) {
		t.Error("constants and fresh symbols")
	}
}

// P23.4: the parts of expansions.
func TestExpand(t *testing.T) {
	for _, c := range []struct{ text, temps, values, stores, write, read string }{
		{"x", "nil", "nil", "(g7)", "(setq x g7)", "x"},
		{"(aref v 0 i)", "(g7 g8)", "(v i)", "(g9)", "(progn (%aset g7 0 g8 g9) g9)", "(aref g7 0 g8)"},
		{"(the u (the v (cdr x)))", "(g7)", "(x)", "(g8)", "(progn (rplacd g7 g8) g8)", "(the u (the v (cdr g7)))"},
		{"(values a (values (car b) (f c)))", "(g8 g10)", "(b c)", "(g7 g9 g11)", "(values (setq a g7) (values (progn (rplaca g8 g9) g9) (progn (|(SETF F)| g11 g10) g11)))", "(values a (values (car g8) (f g10)))"},
	} {
		p, _, e := place.Expand(place.Standard(), read(t, c.text), 7)
		got := [...]api.Form{lisp.List(p.Temps...), lisp.List(p.Values...), lisp.List(p.Stores...), p.Write, p.Read}
		for i, want := range [...]string{c.temps, c.values, c.stores, c.write, c.read} {
			if e != api.OK || !forms.Equal(got[i], read(t, want)) {
				t.Errorf("%s: %s, expected %s, %v", c.text, show(got[i]), want, e)
			}
		}
	}
}
