package macro_test

import (
	"slices"
	"strings"
	"testing"

	"commonform/api"
	"commonform/forms"
	"commonform/lib"
	"commonform/lisp"
	"commonform/macro"
	"commonform/reader"
)

type expansion struct {
	text, want string
	next       int
}

func checkOnce(t *testing.T, l []expansion) {
	t.Helper()
	for _, c := range l {
		f, next, is, e := macro.Once(macro.New(), read(t, c.text), 0)
		if e != api.OK || !is || next != c.next || !forms.Equal(f, read(t, c.want)) {
			t.Errorf("%s: %s, %d, %v, %v", c.text, show(f), next, is, e)
		}
	}
}

// P22.1: the macros of tests, and of single values.
func TestOnceOfTests(t *testing.T) {
	checkOnce(t, []expansion{
		{"(lambda (x) (declare (special x)) x)", "(function (lambda (x) (declare (special x)) x))", 0},
		{"(lambda 5)", "(function (lambda 5))", 0},
		{"(when a b c)", "(if a (progn b c))", 0}, {"(when a)", "(if a (progn))", 0},
		{"(unless a b c)", "(if a nil (progn b c))", 0}, {"(unless a)", "(if a nil (progn))", 0},
		{"(and)", "t", 0}, {"(and a)", "a", 0}, {"(and a b c)", "(if a (and b c))", 0},
		{"(or)", "nil", 0}, {"(or a)", "a", 0}, {"(or a b c)", "(let ((g0 a)) (if g0 g0 (or b c)))", 1},
		{"(cond)", "nil", 0}, {"(cond (a) 5 . nil)", "(or a (cond 5))", 0}, {"(cond (a b c) (d))", "(if a (progn b c) (cond (d)))", 0},
		{"(case k)", "(let ((g0 k)) (cond))", 1},
		{"(case k (a 1 2) ((b 5) 3) (nil 4) (t 5) (otherwise))", "(let ((g0 k)) (cond ((eql g0 'a) 1 2) ((or (eql g0 'b) (eql g0 '5)) 3) ((or) 4) ((eql g0 't) 5) (t nil)))", 1},
		{"(case k ((a . b)) (t 1))", "(let ((g0 k)) (cond ((eql g0 '(a . b)) nil) (t 1)))", 1},
		{"(case k ((t)))", "(let ((g0 k)) (cond ((or (eql g0 't)) nil)))", 1},
		{"(typecase k (integer 1) ((or a b)) (nil 2) (t 3) (otherwise 4))", "(let ((g0 k)) (cond ((typep g0 'integer) 1) ((typep g0 '(or a b)) nil) ((typep g0 'nil) 2) ((typep g0 't) 3) (t 4)))", 1},
		{"(prog1 a)", "(let ((g0 a)) g0)", 1}, {"(prog1 a b c)", "(let ((g0 a)) b c g0)", 1},
		{"(prog2 a b c)", "(progn a (prog1 b c))", 0}, {"(return)", "(return-from nil nil)", 0}, {"(return (f))", "(return-from nil (f))", 0},
		{"(psetq)", "(let nil (setq) nil)", 0}, {"(psetq a 1 b 2)", "(let ((g0 1) (g1 2)) (setq a g0 b g1) nil)", 2},
		{"(multiple-value-bind (a b) f (declare (special a)) c)", "(multiple-value-call (function (lambda (&optional a b &rest g0) (declare (special a)) c)) f)", 1},
		{"(multiple-value-bind nil f)", "(multiple-value-call (function (lambda (&optional &rest g0))) f)", 1},
		{"(multiple-value-list f)", "(multiple-value-call (function list) f)", 0},
		{"(multiple-value-setq (a b) f)", "(multiple-value-bind (g0 g1) f (setq a g0 b g1) g0)", 2},
		{"(multiple-value-setq nil f)", "(prog1 f)", 0}, {"(nth-value n f)", "(nth n (multiple-value-list f))", 0},
	})
}

// P22.1: the macros that repeat.
func TestOnceOfLoops(t *testing.T) {
	checkOnce(t, []expansion{
		{"(do nil (a))", "(block nil (let nil (tagbody g0 (if a (return-from nil (progn))) (psetq) (go g0))))", 1},
		{"(do (a (b) (c 1) (d 2 (f))) ((p) x y) (declare (special a)) tag (g))", "(block nil (let (a b (c 1) (d 2)) (declare (special a)) (tagbody g0 (if (p) (return-from nil (progn x y))) tag (g) (psetq d (f)) (go g0))))", 1},
		{"(do* ((a 1 2) (b 3 4)) (p))", "(block nil (let* ((a 1) (b 3)) (tagbody g0 (if p (return-from nil (progn))) (setq a 2 b 4) (go g0))))", 1},
		{"(prog (a 5 (b c d)) (declare (special a)) x (f))", "(block nil (let (a 5 (b c d)) (declare (special a)) (tagbody x (f))))", 0},
		{"(prog* nil)", "(block nil (let* nil (tagbody)))", 0},
		{"(dolist (x l) (declare (special x)) a (f))", "(block nil (let ((g0 l) (x nil)) (declare (special x)) (tagbody g1 (if g0 (progn (setq x (car g0)) (tagbody a (f)) (setq g0 (cdr g0)) (go g1)))) (setq x nil) nil))", 2},
		{"(dolist (x l r))", "(block nil (let ((g0 l) (x nil)) (tagbody g1 (if g0 (progn (setq x (car g0)) (tagbody) (setq g0 (cdr g0)) (go g1)))) (setq x nil) r))", 2},
		{"(dotimes (i n) (declare (special i)) a (f))", "(block nil (let ((g0 n) (i 0)) (declare (special i)) (tagbody g1 (if (< i g0) (progn (tagbody a (f)) (setq i (+ i 1)) (go g1)))) nil))", 2},
		{"(dotimes (i 3 r))", "(block nil (let ((g0 3) (i 0)) (tagbody g1 (if (< i g0) (progn (tagbody) (setq i (+ i 1)) (go g1)))) r))", 2},
	})
}

// P22.1: the macros that define something.
func TestOnceOfDefinitions(t *testing.T) {
	checkOnce(t, []expansion{
		{"(defun f (x))", "(progn (%fset 'f (function (lambda (x) (block f)))) 'f)", 0},
		{"(defun f 5 \"a\" (declare (special x)) \"b\")", "(progn (%fset 'f (function (lambda 5 (declare (special x)) (block f \"b\")))) 'f)", 0},
		{"(defun f nil \"a\" b)", "(progn (%fset 'f (function (lambda nil (block f b)))) 'f)", 0},
		{"(defun f nil \"a\")", "(progn (%fset 'f (function (lambda nil (block f \"a\")))) 'f)", 0},
		{"(defun f nil \"a\" \"b\" c)", "(progn (%fset 'f (function (lambda nil (block f \"b\" c)))) 'f)", 0},
		{"(defun (setf other::f) (v) v)", "(progn (%fset 'other::|(SETF F)| (function (lambda (v) (block other::f v)))) 'other::|(SETF F)|)", 0},
		{"(defvar s)", "'s", 0}, {"(defvar s 1)", "(progn (if (boundp 's) nil (set 's 1)) 's)", 0}, {"(defvar s 1 \"doc\")", "(progn (if (boundp 's) nil (set 's 1)) 's)", 0},
		{"(defparameter s (f) \"doc\")", "(progn (set 's (f)) 's)", 0}, {"(defconstant s 1)", "(progn (set 's 1) 's)", 0},
		{"(defmacro m)", "'m", 0}, {"(defmacro m 5 . nil)", "'m", 0}, {"(declaim)", "nil", 0}, {"(declaim 5 (special x))", "nil", 0},
		{"(defclass c nil nil)", "(progn (%defclass 'c 'nil (list)) 'c)", 2},
		{"(defclass c (a b) (x (y) (z :initarg :z :initform (f) :allocation :class :type 5 :documentation \"d\") (u :allocation :instance :initarg u)) 5 (:metaclass m))",
			"(progn (%defclass 'c '(a b) (list (list 'x 'nil nil nil) (list 'y 'nil nil nil) (list 'z ':z (function (lambda nil (f))) t) (list 'u 'u nil nil))) 'c)", 2},
		{"(defclass c nil ((x :reader r :accessor a) (y :accessor b)))",
			"(progn (%defclass 'c 'nil (list (list 'x 'nil nil nil) (list 'y 'nil nil nil))) (defmethod r ((g0 c)) (slot-value g0 'x)) (defmethod a ((g0 c)) (slot-value g0 'x)) (defmethod (setf a) (g0 (g1 c)) (%set-slot-value g1 'x g0)) (defmethod b ((g0 c)) (slot-value g0 'y)) (defmethod (setf b) (g0 (g1 c)) (%set-slot-value g1 'y g0)) 'c)", 2},
		{"(defclass c nil ((x :initarg :a :initform 1 :initarg :b :initform 2)))", "(progn (%defclass 'c 'nil (list (list 'x ':a (function (lambda nil 1)) nil))) 'c)", 2},
		{"(defgeneric f (a b &optional c))", "(progn (%defgeneric 'f 'standard 2) (%fset 'f (function (lambda (&rest g0) (%call-generic 'f g0)))) 'f)", 1},
		{"(defgeneric (setf f) nil (:documentation) (:method-combination +) (:method-combination list))", "(progn (%defgeneric '|(SETF F)| '+ 0) (%fset '|(SETF F)| (function (lambda (&rest g0) (%call-generic '|(SETF F)| g0)))) '|(SETF F)|)", 1},
		{"(with-slots (a b) e (declare (special c)) f)", "(let ((g0 e)) (symbol-macrolet ((a (slot-value g0 'a)) (b (slot-value g0 'b))) (declare (special c)) f))", 1},
		{"(with-slots nil e)", "(let ((g0 e)) (symbol-macrolet nil))", 1},
	})
}

// P22.1: methods, with their local functions.
func TestOnceOfMethods(t *testing.T) {
	local := "(flet ((call-next-method (&rest g2) (if g0 (apply g0 (if g2 g2 g1)) (%no-next-method))) (next-method-p nil (if g0 t nil))) (apply (function (lambda %s)) g1))"
	method := func(name, list, qualifiers, specs, lambda string) string {
		return "(progn (if (%generic-p '" + name + ") nil (defgeneric " + name + " " + list + ")) (%defmethod '" + name + " '" + qualifiers + " (list" + specs + ") (function (lambda (g0 &rest g1) " + strings.Replace(local, "%s", list+" "+lambda, 1) + "))) '" + name + ")"
	}
	checkOnce(t, []expansion{
		{"(defmethod f nil)", method("f", "nil", "nil", "", "(block f)"), 3},
		{"(defmethod f :before list ((a c) b (d (eql (g))) &optional (e 5) &key k) (declare (special a)) \"x\" y)", method("f", "(a b d &optional (e 5) &key k)", "(:before list)", " 'c 't (list 'eql (g))", "(declare (special a)) (block f \"x\" y)"), 3},
		{"(defmethod (setf f) (v (x c)) v)", method("|(SETF F)|", "(v x)", "nil", " 't 'c", "(block f v)"), 3},
		{"(defmethod f ((a nil) &rest b))", method("f", "(a &rest b)", "nil", " 'nil", "(block f)"), 3},
	})
}

// P22.1: DESTRUCTURING-BIND has Bind of the list; BACKQUOTE that of the reader.
func TestOnceOfOtherLayers(t *testing.T) {
	f, next, is, e := macro.Once(macro.New(), read(t, "(destructuring-bind (a (b) . c) e (declare (special a)) x)"), 0)
	_, args, ok := lisp.Arguments(f)
	if e != api.OK || !is || !ok || !forms.Equal(args[0], read(t, "((g0 e))")) || next < 2 {
		t.Fatal(show(f), next, is, e)
	}
	body, _ := lisp.Elements(args[1])
	if !lisp.Is(body[0], "LET*") || !slices.EqualFunc(body[2:], []api.Form{read(t, "(declare (special a))"), symbol("X")}, forms.Equal) {
		t.Error(show(f))
	}
	f, _, is, e = macro.Once(macro.New(), read(t, "`(a ,b ,@c)"), 0)
	if e != api.OK || !is || !forms.Equal(f, read(t, "(append (list 'a) (list b) c 'nil)")) {
		t.Error(show(f), is, e)
	}
	for text, want := range map[string]api.Errno{"(reader::backquote)": api.ErrForm, "(reader::backquote a b)": api.ErrForm, "(reader::backquote . a)": api.ErrForm, "`#1=(a)": forms.ErrLabel} {
		if f, n, is, e := macro.Once(macro.New(), read(t, text), 0); e != want || is || f.Kind+n != 0 {
			t.Errorf("%s: %v", text, e)
		}
	}
	splice := lisp.List(forms.Symbol("READER", "BACKQUOTE"), lisp.List(forms.Symbol("READER", "SPLICE"), symbol("A")))
	if _, _, is, e := macro.Once(macro.New(), splice, 0); e != reader.ErrComma || is {
		t.Error(e)
	}
}

// P22.1: calls that have not the shape that is told.
func TestOnceErrors(t *testing.T) {
	for _, text := range strings.Split(`(lambda)|(when)|(unless)|(cond 5)|(cond nil)|(cond (a . b))|(case)|(case k 5)|(case k nil)|(case k (a . b))|(typecase)|(typecase k 5)|(typecase k nil)
(prog1)|(prog2)|(prog2 a)|(return a b)|(psetq a)|(psetq 5 a)|(psetq nil a)|(psetq :k a)|(psetq (a) b)|(psetq &rest a)
(do)|(do nil)|(do 5 (a))|(do nil nil)|(do nil 5)|(do ((a 1 2 3)) (b))|(do (nil) (b))|(do ((5)) (b))|(do ((a . 1)) (b))|(do (()) (b))|(do nil (a . b))|(do* nil)|(do* (5) (a))
(prog)|(prog 5)|(prog (a . b))|(prog* a)|(dolist)|(dolist x)|(dolist (x))|(dolist (x l r s))|(dolist (5 l))|(dolist (t l))|(dolist (x . l))|(dotimes)|(dotimes (i))|(dotimes (i n r s))|(dotimes ("i" n))
(multiple-value-bind)|(multiple-value-bind (a))|(multiple-value-bind a f)|(multiple-value-bind (5) f)|(multiple-value-bind (a . b) f)|(multiple-value-list)|(multiple-value-list a b)|(multiple-value-setq (a))|(multiple-value-setq (a) f g)|(multiple-value-setq a f)|(multiple-value-setq (nil) f)|(nth-value n)|(nth-value n f g)
(destructuring-bind)|(destructuring-bind (a))|(destructuring-bind 5 e)|(destructuring-bind (a a) e)|(destructuring-bind (&rest) e)|(destructuring-bind (5) e)
(defun)|(defun f)|(defun 5 nil)|(defun (f) nil)|(defun (setf) nil)|(defun (setf f g) nil)|(defun (setf 5) nil)|(defun (other::setf f) nil)|(defun (setf . f) nil)
(defvar)|(defvar 5)|(defvar nil)|(defvar :k 1)|(defvar s 1 "d" 2)|(defvar s 1 2)|(defparameter)|(defparameter s)|(defparameter t 1)|(defparameter s 1 "d" 2)|(defparameter s 1 d)|(defconstant s)|(defconstant 5 1)
(defmacro)|(defmacro 5)|(defmacro (setf m))
(defclass)|(defclass c)|(defclass c nil)|(defclass 5 nil nil)|(defclass c 5 nil)|(defclass c (5) nil)|(defclass c (a . b) nil)|(defclass c nil 5)|(defclass c nil (5))|(defclass c nil ((5)))|(defclass c nil ((x :reader)))|(defclass c nil ((x :foo 1)))|(defclass c nil ((x 5 1)))|(defclass c nil ((x initarg a)))|(defclass c nil ((x :initarg 5)))|(defclass c nil ((x :reader (setf r))))|(defclass c nil ((x :accessor 5)))|(defclass c nil ((x :allocation foo)))|(defclass c nil ((x :allocation class)))|(defclass c nil ((x . y)))
(defgeneric)|(defgeneric f)|(defgeneric 5 nil)|(defgeneric f 5)|(defgeneric f (a a))|(defgeneric f ((a c)))|(defgeneric f nil 5)|(defgeneric f nil nil)|(defgeneric f nil (:method-combination))|(defgeneric f nil (:method-combination 5))|(defgeneric f nil (:method-combination + -))|(defgeneric f nil (:x . y))
(defmethod)|(defmethod f)|(defmethod f :before)|(defmethod f 5)|(defmethod f "x" nil)|(defmethod 5 nil)|(defmethod f ((a)))|(defmethod f ((a b c)))|(defmethod f ((5 c)))|(defmethod f ((&rest c) a))|(defmethod f ((a 5)))|(defmethod f ((a (eql))))|(defmethod f ((a (eql 1 2))))|(defmethod f ((a (foo 1))))|(defmethod f (a a))|(defmethod f (nil))|(defmethod f (a . b))|(defmethod f ((a . c)))|(defmethod f (&rest (a c)))
(with-slots)|(with-slots (a))|(with-slots a e)|(with-slots (5) e)|(with-slots (nil) e)|(with-slots ((a b)) e)|(with-slots (a . b) e)`, "\n") {
		for one := range strings.SplitSeq(text, "|") {
			if f, n, is, e := macro.Once(macro.New(), read(t, one), 0); e != api.ErrForm || is || !forms.Equal(f, api.Form{}) || n != 0 {
				t.Errorf("%s: %s, %v", one, show(f), e)
			}
		}
	}
	for _, name := range macro.Standard() {
		f := forms.Dotted([]api.Form{symbol(name), symbol("A")}, lisp.Small(5))
		if _, _, is, e := macro.Once(macro.New(), f, 0); e != api.ErrForm || is {
			t.Errorf("%s: %v", show(f), e)
		}
	}
}

// P22.1: Standard, and forms that are no calls.
func TestOnceOfOthers(t *testing.T) {
	want := "AND CASE COND DECLAIM DEFCLASS DEFCONSTANT DEFGENERIC DEFMACRO DEFMETHOD DEFPARAMETER DEFUN DEFVAR DESTRUCTURING-BIND DO DO* DOLIST DOTIMES LAMBDA MULTIPLE-VALUE-BIND MULTIPLE-VALUE-LIST MULTIPLE-VALUE-SETQ NTH-VALUE OR PROG PROG* PROG1 PROG2 PSETQ RETURN TYPECASE UNLESS WHEN WITH-SLOTS"
	if got := macro.Standard(); !slices.Equal(got, strings.Fields(want)) {
		t.Error(got)
	}
	table := macro.New()
	if len(table.Expanders)+len(table.Macros)+len(table.Specials) != 0 {
		t.Error(table)
	}
	for _, text := range []string{"5", "x", "nil", "(f x)", "(f . x)", "((when) x)", "(other::when a)", "(if a b)", "(if)", "(macrolet nil (when a))", "(symbol-macrolet)", "(eval-when)", "#1=(when #1#)"} {
		f := read(t, text)
		if got, n, is, e := macro.Once(table, f, 7); e != api.OK || is || n != 7 || !forms.Equal(got, f) {
			t.Errorf("%s: %s, %d, %v, %v", text, show(got), n, is, e)
		}
	}
	for _, f := range []api.Form{{}, {Kind: api.FormCons}, nested(101)} {
		if got, n, is, e := macro.Once(table, f, 7); e != forms.Check(f) || is || n != 0 || got.Kind != 0 {
			t.Error(e)
		}
	}
	f := read(t, "(when a)")
	made, _, _, _ := macro.Once(table, f, 0)
	made.Kids[1].Text = "CHANGED"
	if f.Kids[1].Text != "A" {
		t.Error("memory is shared")
	}
}

// P22.1: expanders; the first one of a name counts, ahead of the standard macros, and behind the user's.
func TestOnceOfExpanders(t *testing.T) {
	say := func(name string) macro.Expander {
		return func(f api.Form, fresh int) (api.Form, int, api.Errno) {
			return lisp.Call(name, lisp.Small(fresh), f), fresh + 2, api.OK
		}
	}
	fail := func(f api.Form, fresh int) (api.Form, int, api.Errno) { return api.Form{}, 0, 777 }
	table := macro.Table{Expanders: []macro.Named{{"WHEN", say("FIRST")}, {"WHEN", say("SECOND")}, {"IF", say("IF")}, {"BAD", fail}, {"NONE", nil}}}
	if f, n, is, e := macro.Once(table, read(t, "(when a . b)"), 5); e != api.OK || !is || n != 7 || !forms.Equal(f, read(t, "(first 5 (when a . b))")) {
		t.Error(show(f), n, is, e)
	}
	if f, n, is, e := macro.Once(table, read(t, "(if a)"), 5); e != api.OK || is || n != 5 || !forms.Equal(f, read(t, "(if a)")) {
		t.Error(show(f), n, is, e)
	}
	if f, n, is, e := macro.Once(table, read(t, "(bad)"), 5); e != 777 || is || f.Kind+n != 0 {
		t.Error(e)
	}
	if f, n, is, e := macro.Once(table, read(t, "(none)"), 5); e != api.ErrArg || is || f.Kind+n != 0 {
		t.Error(e)
	}
	table = withMacros(t, newWorld(t), table, "(defmacro when () 5)")
	if f, n, is, e := macro.Once(table, read(t, "(when a)"), 5); e != api.OK || is || n != 5 || !forms.Equal(f, read(t, "(when a)")) {
		t.Error(show(f), n, is, e)
	}
	if f, _, end := macro.All(newWorld(t), table, read(t, "(bad)"), 0); !isBad(f, 0, end, 777) {
		t.Error(end)
	}
	if f, _, end := macro.All(newWorld(t), table, read(t, "(progn (none))"), 0); !isBad(f, 0, end, api.ErrArg) {
		t.Error(end)
	}
	end := lib.End{}
	if f, _, got := macro.All(newWorld(t), table, read(t, "(when)"), 0); got.Kind != end.Kind || !forms.Equal(f, lisp.Small(5)) {
		t.Error(show(f), got)
	}
}
