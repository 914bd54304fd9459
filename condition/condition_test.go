package condition_test

import (
	"math/rand"
	"slices"
	"strconv"
	"strings"
	"testing"

	"commonform/api"
	"commonform/condition"
	"commonform/forms"
	"commonform/lisp"
)

// P25.1: the expansions of all macros.
func TestMacro(t *testing.T) {
	for _, c := range []struct{ text, want string }{
		{"(handler-bind nil)", "(progv '(%handlers%) (list (cons (list) (symbol-value '%handlers%))))"},
		{"(handler-bind ((error h) ((or a b) (f))) (g) 5)", "(progv '(%handlers%) (list (cons (list (cons 'error h) (cons '(or a b) (f))) (symbol-value '%handlers%))) (g) 5)"},
		{"(restart-bind nil x)", "(progv '(%restarts%) (list (append (list) (symbol-value '%restarts%))) x)"},
		{"(restart-bind ((a f) (nil (g))))", "(progv '(%restarts%) (list (append (list (cons 'a f) (cons 'nil (g))) (symbol-value '%restarts%))))"},
		{"(handler-case x)", "(block g0 (let* ((g1 nil)) (tagbody (return-from g0 (handler-bind nil x)))))"},
		{"(handler-case (f) (error (e) (g e)))", "(block g0 (let* ((g1 nil)) (tagbody (return-from g0 (handler-bind ((error (lambda (g3) (setq g1 g3) (go g2)))) (f))) g2 (return-from g0 (let* ((e g1)) (g e))))))"},
		{"(handler-case x ((or a b) nil) (c nil 1 2) (d (e)))", "(block g0 (let* ((g1 nil)) (tagbody (return-from g0 (handler-bind (((or a b) (lambda (g5) (setq g1 g5) (go g2))) (c (lambda (g5) (setq g1 g5) (go g3))) (d (lambda (g5) (setq g1 g5) (go g4)))) x)) g2 (return-from g0 (progn)) g3 (return-from g0 (progn 1 2)) g4 (return-from g0 (let* ((e g1)))))))"},
		{"(restart-case x)", "(block g0 (let* ((g1 nil)) (tagbody (return-from g0 (restart-bind nil x)))))"},
		{"(restart-case x (a (b &rest c) d e) (a nil))", "(block g0 (let* ((g1 nil)) (tagbody (return-from g0 (restart-bind ((a (lambda (&rest g4) (setq g1 g4) (go g2))) (a (lambda (&rest g4) (setq g1 g4) (go g3)))) x)) g2 (return-from g0 (apply (lambda (b &rest c) d e) g1)) g3 (return-from g0 (apply (lambda nil) g1)))))"},
		{"(ignore-errors)", "(handler-case (progn) (error (g0) (values nil g0)))"},
		{"(ignore-errors 1 (f))", "(handler-case (progn 1 (f)) (error (g0) (values nil g0)))"},
		{"(with-simple-restart (a))", "(restart-case (progn) (a nil (values nil t)))"},
		{"(with-simple-restart (a \"x\" 5) 1 2)", "(restart-case (progn 1 2) (a nil (values nil t)))"},
		{"(define-condition c nil nil)", "(defclass c (condition) nil)"},
		{"(define-condition c (a b) (x (y :initarg :y)) (:report r) 5)", "(defclass c (a b) (x (y :initarg :y)))"},
		{"(assert (f))", "(if (f) nil (error 'simple-error))"},
		{"(check-type (f) (integer 0 5))", "(if (typep (f) '(integer 0 5)) nil (error 'type-error))"},
	} {
		f, n, e := condition.Macro(read(t, c.text), 0)
		if e != api.OK || !forms.Equal(f, read(t, c.want)) || n != strings.Count(c.text, "-case")*2+taken(f) {
			t.Errorf("%s: %s, %d, %v", c.text, show(f), n, e)
		}
	}
}

// taken returns how many fresh symbols an expansion with a TAGBODY has behind the first two; of one with a clause for errors one.
func taken(f api.Form) int {
	name, args, _ := lisp.Arguments(f)
	switch {
	case name == "BLOCK":
		tagbody := args[1].Kids[2]
		return (len(tagbody.Kids)-3)/2 + 1
	case name == "HANDLER-CASE":
		return 1
	}
	return 0
}

// P25.1: forms that are not as said, and the order of errors.
func TestMacroErrors(t *testing.T) {
	isZero := func(f api.Form, n int) bool { return forms.Equal(f, api.Form{}) && n == 0 }
	for _, text := range []string{
		"5", "x", "nil", "(list)", "((assert) x)", "(other:assert x)", "(assert . x)",
		"(handler-bind)", "(handler-bind x)", "(handler-bind (x))", "(handler-bind ((a)))", "(handler-bind ((a b c)))", "(handler-bind ((a . b)))", "(handler-bind ((a b) . c))", "(handler-bind nil . x)",
		"(restart-bind)", "(restart-bind ((5 f)))", "(restart-bind (((a) f)))", "(restart-bind ((a)))", "(restart-bind ((a b c)))",
		"(handler-case)", "(handler-case x y)", "(handler-case x nil)", "(handler-case x (a))", "(handler-case x (a b))", "(handler-case x (a (b c)))", "(handler-case x (a (5)))", "(handler-case x (a (nil)))", "(handler-case x (a (:k)))", "(handler-case x (a (b . c)))", "(handler-case x (a nil . b))", "(handler-case x . y)",
		"(restart-case)", "(restart-case x (a))", "(restart-case x (5 nil))", "(restart-case x ((a) nil))", "(restart-case x (a b))", "(restart-case x (a (b . c)))",
		"(with-simple-restart)", "(with-simple-restart a)", "(with-simple-restart nil)", "(with-simple-restart (5))", "(with-simple-restart (a . b))",
		"(define-condition)", "(define-condition c)", "(define-condition c nil)", "(define-condition 5 nil nil)", "(define-condition (c) nil nil)", "(define-condition c x nil)", "(define-condition c nil x)", "(define-condition c (a . b) nil)", "(define-condition c nil (a . b))",
		"(assert)", "(assert x y)", "(check-type)", "(check-type x)", "(check-type x y z)", "(ignore-errors . x)",
	} {
		if f, n, e := condition.Macro(read(t, text), 0); e != api.ErrForm || !isZero(f, n) {
			t.Errorf("%s: %v", text, e)
		}
	}
	many := api.Form{Kind: api.FormVector, Kids: slices.Repeat([]api.Form{lisp.Small(1)}, 1990)}
	for _, c := range []struct {
		f     api.Form
		fresh int
		want  api.Errno
	}{
		{api.Form{Kind: 99}, -1, api.ErrForm}, {nested(101), -1, api.ErrSize}, {read(t, "(list)"), -1, api.ErrArg}, {read(t, "(assert x)"), 1<<30 + 1, api.ErrArg},
		{read(t, "(ignore-errors)"), 1 << 30, api.OK}, {lisp.Call("ASSERT", many), 0, api.ErrSize}, {lisp.Call("IGNORE-ERRORS", nested(98)), 0, api.OK},
		{lisp.Call("IGNORE-ERRORS", nested(99)), 0, api.ErrSize}, {read(t, "(define-condition c (#1=a) (#1#))"), 0, api.OK},
		{read(t, "(with-simple-restart (a #1=(x)) #1#)"), 0, api.ErrSize}, // the label is left out
	} {
		if f, n, e := condition.Macro(c.f, c.fresh); e != c.want || e != api.OK && !isZero(f, n) {
			t.Errorf("%.60s: %v, expected %v", show(c.f), e, c.want)
		}
	}
}

// P25.1: clauses, and forms that have none.
func TestClauses(t *testing.T) {
	for _, c := range []struct{ text, want string }{
		{"(handler-case x)", "x"}, {"(handler-case (f) (error nil) (t (e) 1 2) ((or a b) nil (c)))", "(f); error nil; t (e) 1 2; (or a b) nil (c)"},
		{"(restart-case nil (a (b &key c) d) (nil nil))", "nil; a (b &key c) d; nil nil"}, {"(restart-case x (a (5 . nil)))", "x; a (5)"},
	} {
		f, l, e := condition.Clauses(read(t, c.text))
		text := show(f)
		for _, c := range l {
			text += "; " + show(c.Name) + " " + show(c.Params)
			for _, f := range c.Body {
				text += " " + show(f)
			}
		}
		if e != api.OK || text != c.want {
			t.Errorf("%s: %s, %v", c.text, text, e)
		}
	}
	for _, text := range []string{"5", "(ignore-errors x)", "(handler-bind nil)", "(handler-case)", "(restart-case)", "(handler-case x (a (b c)))", "(handler-case x (a (b) . c))", "(handler-case x (a (t)))", "(restart-case x ((a) nil))", "(other:handler-case x)"} {
		if f, l, e := condition.Clauses(read(t, text)); e != api.ErrForm || f.Kind != 0 || len(l) != 0 {
			t.Errorf("%s: %v", text, e)
		}
	}
	if f, l, e := condition.Clauses(nested(101)); e != api.ErrSize || f.Kind != 0 || len(l) != 0 {
		t.Error(e)
	}
}

// P25.1: the prelude is the text of the chapter.
func TestPrelude(t *testing.T) {
	if condition.Prelude() != chapter {
		t.Error(condition.Prelude())
	}
	for line := range strings.Lines(chapter) {
		read(t, line)
	}
}

const chapter = `(DEFCLASS CONDITION () (DATA))
(DEFCLASS WARNING (CONDITION) ())
(DEFCLASS SERIOUS-CONDITION (CONDITION) ())
(DEFCLASS ERROR (SERIOUS-CONDITION) ())
(DEFCLASS SIMPLE-CONDITION (CONDITION) ())
(DEFCLASS SIMPLE-ERROR (SIMPLE-CONDITION ERROR) ())
(DEFCLASS SIMPLE-WARNING (SIMPLE-CONDITION WARNING) ())
(DEFCLASS CONTROL-ERROR (ERROR) ())
(DEFCLASS PROGRAM-ERROR (ERROR) ())
(DEFCLASS TYPE-ERROR (ERROR) ())
(DEFCLASS CELL-ERROR (ERROR) ())
(DEFCLASS UNBOUND-VARIABLE (CELL-ERROR) ())
(DEFCLASS UNBOUND-SLOT (CELL-ERROR) ())
(DEFCLASS UNDEFINED-FUNCTION (CELL-ERROR) ())
(DEFCLASS ARITHMETIC-ERROR (ERROR) ())
(DEFCLASS DIVISION-BY-ZERO (ARITHMETIC-ERROR) ())
(DEFCLASS FLOATING-POINT-OVERFLOW (ARITHMETIC-ERROR) ())
(SET '%HANDLERS% NIL)
(SET '%RESTARTS% NIL)
(DEFUN %CONDITION (C D) (IF (SYMBOLP C) (LET* ((X (MAKE-INSTANCE C))) (%SET-SLOT-VALUE X 'DATA D) X) C))
(DEFUN %OFFER (C L) (IF L (PROGN (IF (%ISA C (CAR (CAR L))) (FUNCALL (CDR (CAR L)) C)) (%OFFER C (CDR L)))))
(DEFUN %SIGNAL (C H) (IF H (PROGN (PROGV '(%HANDLERS%) (LIST (CDR H)) (%OFFER C (CAR H))) (%SIGNAL C (CDR H)))))
(DEFUN SIGNAL (C &REST D) (%SIGNAL (%CONDITION C D) (SYMBOL-VALUE '%HANDLERS%)))
(DEFUN ERROR (C &REST D) (LET* ((X (%CONDITION C D))) (%SIGNAL X (SYMBOL-VALUE '%HANDLERS%)) (%UNHANDLED X)))
(DEFUN WARN (C &REST D) (RESTART-CASE (PROGN (SIGNAL (%CONDITION C D)) NIL) (MUFFLE-WARNING () NIL)))
(DEFUN CERROR (C &REST D) (RESTART-CASE (ERROR (%CONDITION C D)) (CONTINUE () NIL)))
(DEFUN FIND-RESTART (N) (ASSOC N (SYMBOL-VALUE '%RESTARTS%)))
(DEFUN COMPUTE-RESTARTS () (SYMBOL-VALUE '%RESTARTS%))
(DEFUN INVOKE-RESTART (N &REST A) (LET* ((R (IF (SYMBOLP N) (FIND-RESTART N) N))) (IF R (APPLY (CDR R) A) (ERROR 'CONTROL-ERROR N))))
(DEFUN CONTINUE () (IF (FIND-RESTART 'CONTINUE) (INVOKE-RESTART 'CONTINUE)))
(DEFUN MUFFLE-WARNING () (INVOKE-RESTART 'MUFFLE-WARNING))
(DEFUN CONDITION-DATA (C) (SLOT-VALUE C 'DATA))
(DEFUN %FAULT (N D) (APPLY 'ERROR N D))
`

// chooser makes random forms whose parts are calls of MARK with numbers that ascend.
type chooser struct {
	*rand.Rand
	marks int
}

func (r *chooser) mark() api.Form {
	r.marks++
	return lisp.Call("MARK", lisp.Small(r.marks))
}

func (r *chooser) body() []api.Form {
	var l []api.Form
	for range r.Intn(3) {
		l = append(l, r.mark())
	}
	return l
}

func (r *chooser) form() api.Form {
	r.marks = 0
	kind := r.Intn(6)
	if kind < 2 {
		var l []api.Form
		for range r.Intn(3) {
			l = append(l, lisp.List(symbol("A"), r.mark()))
		}
		return lisp.Body([]string{"HANDLER-BIND", "RESTART-BIND"}[kind], lisp.List(l...), r.body())
	}
	if kind < 4 {
		l := []api.Form{r.mark()}
		for range r.Intn(4) {
			params := forms.Nil()
			if r.Intn(2) == 0 {
				params = lisp.List(symbol("E"))
			}
			l = append(l, lisp.List(append([]api.Form{symbol("A"), params}, r.body()...)...))
		}
		return lisp.Call([]string{"HANDLER-CASE", "RESTART-CASE"}[kind-2], l...)
	}
	if kind == 4 {
		return lisp.Call("IGNORE-ERRORS", r.body()...)
	}
	return lisp.Body("WITH-SIMPLE-RESTART", lisp.List(symbol("A")), r.body())
}

func marks(f api.Form) []int {
	if name, args, ok := lisp.Arguments(f); ok && name == "MARK" {
		n, _ := strconv.Atoi(args[0].Text)
		return []int{n}
	}
	var all []int
	for _, kid := range f.Kids {
		all = append(all, marks(kid)...)
	}
	return all
}

func shifted(f api.Form, by int) api.Form {
	if f.Kind == api.FormSymbol && f.Home == "%" {
		n, _ := strconv.Atoi(f.Text)
		return lisp.Fresh(n + by)
	}
	return changed(f, func(k api.Form) api.Form { return shifted(k, by) })
}

// P25.2: each form stands once, in order; from another fresh on the numbers alone are others.
func TestOnce(t *testing.T) {
	r := &chooser{Rand: rand.New(rand.NewSource(25))}
	for range 2000 {
		f := r.form()
		made, next, e := condition.Macro(f, 3)
		if e != api.OK {
			t.Fatalf("%s: %v", show(f), e)
		}
		l := marks(made)
		for i, n := range l {
			if n != i+1 || len(l) != r.marks {
				t.Fatalf("%s: %s", show(f), show(made))
			}
		}
		by := r.Intn(100)
		other, n, e := condition.Macro(f, 3+by)
		if e != api.OK || n != next+by || !forms.Equal(other, shifted(made, by)) {
			t.Fatalf("%s: %s", show(f), show(other))
		}
	}
}

// P25.1: nothing panics, whatever the arguments are.
func TestAnyForm(t *testing.T) {
	r := rand.New(rand.NewSource(251))
	names := strings.Fields("HANDLER-BIND RESTART-BIND HANDLER-CASE RESTART-CASE IGNORE-ERRORS WITH-SIMPLE-RESTART DEFINE-CONDITION ASSERT CHECK-TYPE X NIL T")
	var anything func(depth int) api.Form
	anything = func(depth int) api.Form {
		if depth == 0 || r.Intn(3) == 0 {
			return []api.Form{symbol(names[r.Intn(len(names))]), lisp.Small(r.Intn(3)), {}, {Kind: r.Intn(16), Text: "1"}}[r.Intn(4)]
		}
		f := api.Form{Kind: api.FormCons}
		for range r.Intn(5) {
			f.Kids = append(f.Kids, anything(depth-1))
		}
		if r.Intn(4) > 0 {
			f.Kids = append([]api.Form{symbol(names[r.Intn(len(names))])}, append(f.Kids, forms.Nil())...)
		}
		return f
	}
	for range 20000 {
		f := anything(4)
		made, n, e := condition.Macro(f, r.Intn(4)-1)
		if e == api.OK && forms.Check(made) != api.OK || e != api.OK && made.Kind+n != 0 {
			t.Fatal(f, made, e)
		}
		condition.Clauses(f)
	}
}
