package macro_test

import (
	"slices"
	"strings"
	"testing"

	"commonform/api"
	"commonform/core"
	"commonform/forms"
	"commonform/heap"
	"commonform/lib"
	"commonform/lisp"
	"commonform/macro"
	"commonform/meaning"
)

// checkAll checks expansions of forms in a table; those of the same text stay as they are.
func checkAll(t *testing.T, table macro.Table, pairs ...string) {
	t.Helper()
	w := newWorld(t)
	for pair := range slices.Chunk(pairs, 2) {
		f, _, end := macro.All(w, table, read(t, pair[0]), 0)
		want := pair[1]
		if want == "" {
			want = pair[0]
		}
		if end.Kind != lib.EndValues || !forms.Equal(f, read(t, want)) {
			t.Errorf("%s: %s, %v", pair[0], show(f), end)
		}
	}
}

// P22.1: the parts of special forms that are evaluated, and no others.
func TestAllOfSpecialForms(t *testing.T) {
	checkAll(t, macro.New(),
		"5", "", "x", "", "nil", "", "\"x\"", "", "#(a (when b))", "",
		"(quote (when a))", "", "(function when)", "", "(function f)", "", "(go a)", "", "(go 5)", "",
		"(f (and) x)", "(f t x)", "(if (and) (or) (and x))", "(if t nil x)", "(if (and) (or))", "(if t nil)",
		"(progn)", "", "(progn (and) (or))", "(progn t nil)",
		"(let ((x (and)) y (z) (u (or))) (declare (special x)) (and x))", "(let ((x t) y (z) (u nil)) (declare (special x)) x)",
		"(let* ((x (and))) (or))", "(let* ((x t)) nil)", "(let nil)", "", "(setq)", "", "(setq x (and) y (or))", "(setq x t y nil)",
		"(block and (and))", "(block and t)", "(block nil)", "", "(return-from and (and))", "(return-from and t)", "(return-from nil)", "",
		"(tagbody and (f (and)) 5 (go and))", "(tagbody and (f t) 5 (go and))", "(tagbody)", "",
		"(catch (and) (or))", "(catch t nil)", "(throw (and) (or))", "(throw t nil)", "(unwind-protect (and) (or) (and x))", "(unwind-protect t nil x)",
		"(multiple-value-call (and f) (or))", "(multiple-value-call f nil)", "(multiple-value-prog1 (and) (or))", "(multiple-value-prog1 t nil)",
		"(progv (and) (or) (and x))", "(progv t nil x)", "(locally)", "", "(locally (declare (special x)) (and) (or))", "(locally (declare (special x)) t nil)",
		"(the (and integer) (and x))", "(the (and integer) x)", "(load-time-value (and) (or))", "(load-time-value t (or))", "(load-time-value (and))", "(load-time-value t)",
		"(flet ((and (x) (declare (special x)) (or))) (or))", "(flet ((and (x) (declare (special x)) nil)) nil)", "(labels ((f (x) (and x))) (f (or)))", "(labels ((f (x) x)) (f nil))",
		"(flet nil)", "", "((lambda (x) (and x)) (or))", "((lambda (x) x) nil)",
		"(function (lambda (x &optional y (z (and)) (u (or) v) &rest r) (and x)))", "(function (lambda (x &optional y (z t) (u nil v) &rest r) x))",
		"(function (lambda (&key a (b (and)) ((:c c) (or) d) ((e f)) &allow-other-keys &aux g (h (and)) (i)) (declare (foo)) (and)))", "(function (lambda (&key a (b t) ((:c c) nil d) ((e f)) &allow-other-keys &aux g (h t) (i)) (declare (foo)) t))",
		"(function (lambda nil))", "", "(function (lambda (x x) (and x)))", "(function (lambda (x x) x))", "(let ((x 1) (x 2)) (and x))", "(let ((x 1) (x 2)) x)",
		"(when (unless a b) (cond (c)))", "(if (if a nil (progn b)) (progn (let ((g0 c)) (if g0 g0 nil))))",
		"(let nil (declare (special x)))", "", "(progv a b)", "", "(other::if (and))", "(other::if t)", "(other::quote (and))", "(other::quote t)",
		"(declare (special x))", "", "(progn (declare x))", "",
	)
}

// P22.1: forms that are no expanded forms where they must be some.
func TestAllErrors(t *testing.T) {
	w := newWorld(t)
	for _, text := range strings.Split(`(f . x)|(5 x)|(nil x)|(t)|(:k 1)|("f")|((f) x)|((lambda) 1)|((lambda 5 x) 1)|((function f) 1)|((other nil 5) 1)|(function (other nil 5))
(quote)|(quote a b)|(quote . a)|(function)|(function f g)|(function 5)|(function nil)|(function :k)|(function (setf f))|(function (lambda))|(function (lambda 5))|(function (lambda (5)))|(function (lambda ((a b)) a))|(function (lambda (&whole x)))|(function (lambda nil . x))
(if)|(if a)|(if a b c d)|(let)|(let 5)|(let (5))|(let ((5 1)))|(let ((x 1 2)))|(let ((nil 1)))|(let (:k))|(let ((x . 1)))|(let ((a 1) . b))|(let* x)|(let* (()))|(setq x)|(setq 5 1)|(setq nil 1)|(setq (a) 1)|(setq x 1 y)
(block)|(block 5)|(return-from)|(return-from 5)|(return-from a b c)|(go)|(go a b)|(go (a))|(go "a")|(catch)|(throw a)|(throw a b c)|(unwind-protect)|(multiple-value-call)|(multiple-value-prog1)|(progv a)|(the a)|(the a b c)|(load-time-value)|(load-time-value a b c)
(flet)|(flet 5)|(flet (5))|(flet ((f)))|(flet ((5 nil)))|(flet ((nil nil)))|(flet ((:k nil)))|(flet ((f 5)))|(flet ((f nil . x)))|(labels)|(labels (f))|(labels ((f)))
(macrolet)|(macrolet 5)|(macrolet (5))|(macrolet ((m)))|(macrolet ((5 nil)))|(macrolet (((m) nil)))|(macrolet ((m 5)))|(macrolet ((m (a a))))|(macrolet ((m nil . x)))|(symbol-macrolet)|(symbol-macrolet 5)|(symbol-macrolet (x))|(symbol-macrolet ((x)))|(symbol-macrolet ((x 1 2)))|(symbol-macrolet ((5 1)))|(symbol-macrolet ((nil 1)))|(symbol-macrolet ((x . 1)))
(eval-when)|(eval-when 5)|(eval-when (a . b))|(eval-when :execute)|(tagbody . a)|(progn . a)|(locally . a)
(let nil 1 (declare (special x)))|(locally x (declare))|(function (lambda nil 1 (declare)))|(flet ((f nil 1 (declare))))|(labels nil 1 (declare . 5))|(macrolet nil 1 (declare))|(symbol-macrolet nil 1 (declare))|(symbol-macrolet ((x (declare))) x)|(let* nil (and (declare)))
(progn (defmacro m nil))|(let nil (defmacro m nil))|(progn (declaim))|(f (declaim (special x)))|(eval-when (:execute) (defmacro m nil))|(macrolet nil (declaim))
(when)|(progn (cond 5))|(let ((x (when))))|(f (psetq 5 1))|(progn (f) (dolist (5 5)))
#1=(f #1#)|(f #1=(g) #1#)|(quote #1=(a . #1#))|(f #1=5)|(list '(#1=(a) #1#))|(progn #1=x)|(let ((x #1=5)))`, "\n") {
		for one := range strings.SplitSeq(text, "|") {
			if f, n, end := macro.All(w, macro.New(), read(t, one), 0); !isBad(f, n, end, api.ErrForm) {
				t.Errorf("%s: %s, %v", one, show(f), end)
			}
		}
	}
	for _, f := range []api.Form{{}, {Kind: api.FormCons}, {Kind: api.FormCons, Kids: []api.Form{symbol("F")}}, {Kind: api.FormSymbol, Text: "\xff"}, {Kind: api.FormRef, Text: "1"}} {
		if made, n, end := macro.All(w, macro.New(), f, 0); !isBad(made, n, end, api.ErrForm) {
			t.Error(f, end)
		}
	}
	if made, n, end := macro.All(w, macro.New(), read(t, "(list `#1=(a))"), 0); !isBad(made, n, end, forms.ErrLabel) {
		t.Error(end)
	}
}

// P22.1: what stands at the top.
func TestTop(t *testing.T) {
	table := withMacros(t, newWorld(t), macro.New(), "(defmacro top (x) x)")
	checkAll(t, table,
		"(defmacro m (x) (when))", "'m", "(declaim (special x))", "nil", "(top (defmacro m nil))", "'m", "(top (top (declaim)))", "nil", "(and (declaim))", "nil",
		"(eval-when (:execute) 1 (and))", "(progn 1 t)", "(eval-when (a :load-toplevel) 1)", "(progn 1)", "(eval-when (eval) 1)", "(progn 1)", "(eval-when (load))", "(progn)",
		"(eval-when (:compile-toplevel compile other::eval :eval) (when))", "nil", "(eval-when nil 1)", "nil", "(f (eval-when (load) (and)))", "(f (progn t))",
	)
}

// P22.4: functions hide macros, and variables symbol macros, in their scopes and nowhere else.
func TestEnvironments(t *testing.T) {
	checkAll(t, macro.New(),
		"(flet ((when (x) (and x) (when x))) (when 1))", "(flet ((when (x) x (if x (progn)))) (when 1))",
		"(labels ((when (x) (when x))) (when 1))", "",
		"(progn (flet ((when (x) x)) (when 1)) (when 1))", "(progn (flet ((when (x) x)) (when 1)) (if 1 (progn)))",
		"(flet ((f nil (and)) (and nil (and))) (and))", "(flet ((f nil t) (and nil t)) (and))",
		"(labels ((f nil (and)) (and nil (and))) (and))", "",
		"(flet ((other::when nil)) (when a))", "(flet ((other::when nil)) (if a (progn)))", "(let ((when 1)) (when when))", "(let ((when 1)) (if when (progn)))",
		"(flet ((if (x) x)) (if (and) (or)))", "(flet ((if (x) x)) (if t nil))", "(flet ((macrolet (x) x)) (macrolet nil (and)))", "(flet ((macrolet (x) x)) (locally t))",
		"(symbol-macrolet ((x (f y))) x)", "(locally (f y))",
		"(symbol-macrolet ((x (f y)) (y 5)) (declare (special z)) (list x y z 'x #'x))", "(locally (list (f 5) 5 z 'x #'x))",
		"(symbol-macrolet ((x 1) (x 2)) x)", "(locally 1)", "(symbol-macrolet ((x 1)) (symbol-macrolet ((x 2)) x) x)", "(locally (locally 2) 1)",
		"(symbol-macrolet ((x (and))) (let ((x x) (y x)) x y) x)", "(locally (let ((x t) (y t)) x y) t)",
		"(symbol-macrolet ((x 1)) (let* ((y x) (x x) (z x)) x))", "(locally (let* ((y 1) (x 1) (z x)) x))",
		"(symbol-macrolet ((x 1) (y 2)) #'(lambda (x &optional (y y) (z (list x y) u)) (list x y z)))", "(locally #'(lambda (x &optional (y 2) (z (list x y) u)) (list x y z)))",
		"(symbol-macrolet ((x 1) (y 2) (z 3)) #'(lambda (&optional (a x y) (b y) &key ((:x z) z) (c z) &aux (x x) (d x)) y))", "(locally #'(lambda (&optional (a 1 y) (b y) &key ((:x z) 3) (c z) &aux (x 1) (d x)) y))",
		"(symbol-macrolet ((x 1) (y 2)) #'(lambda (a &rest x) x y))", "(locally #'(lambda (a &rest x) x 2))",
		"(symbol-macrolet ((x 1)) (flet ((x (x) x) (f nil x)) x (x x)) ((lambda (x) x) x))", "(locally (flet ((x (x) x) (f nil 1)) 1 (x 1)) ((lambda (x) x) 1))",
		"(symbol-macrolet ((x 1)) (block x (tagbody x (return-from x x) (go x))) (the x x) (catch x x) (setq y x))", "(locally (block x (tagbody x (return-from x 1) (go x))) (the x 1) (catch 1 1) (setq y 1))",
		"(symbol-macrolet ((x 1)) (locally (declare (special x)) x) (progv x x x))", "(locally (locally (declare (special x)) 1) (progv 1 1 1))",
		"(symbol-macrolet ((x (car y))) (setq x 1))", "(locally (setf (car y) 1))",
		"(symbol-macrolet ((x (car y))) (setq a x x (and) b 2))", "(locally (progn (setq a (car y)) (setf (car y) t) (setq b 2)))",
		"(symbol-macrolet ((x (car y))) (let ((x 1)) (setq x 2)) (psetq x 1))", "(locally (let ((x 1)) (setq x 2)) (let ((g0 1)) (setf (car y) g0) nil))",
		"(symbol-macrolet ((x y) (y z)) x (setq x 1))", "(locally z (setf z 1))",
		"(with-slots (a) o (list a (let ((a a)) a)))", "(let ((g0 o)) (locally (list (slot-value g0 'a) (let ((a (slot-value g0 'a))) a))))",
		"(symbol-macrolet ((x 1)) (macrolet ((m nil 'x)) (m) (let ((x 2)) (m))))", "(locally (locally 1 (let ((x 2)) x)))",
		"(macrolet nil (declare (special x)) (and))", "(locally (declare (special x)) t)",
		"(macrolet ((m (x) (list 'f x)) (f (x) x)) (m (and)))", "(locally t)",
		"(macrolet ((m nil 1) (m nil 2)) (m))", "(locally 1)", "(macrolet ((m nil)) (m))", "(locally nil)", "(macrolet ((m nil 1)) (macrolet ((m nil 2)) (m)) (m))", "(locally (locally 2) 1)",
		"(macrolet ((m nil 1)) (flet ((m nil (m))) (m)) (labels ((m nil (m))) (m)))", "(locally (flet ((m nil 1)) (m)) (labels ((m nil (m))) (m)))",
		"(flet ((m nil 1)) (macrolet ((m nil 2)) (m)) (m))", "(flet ((m nil 1)) (locally 2) (m))",
		"(macrolet ((when (x) x)) (when 1) (unless 2))", "(locally 1 (if 2 nil (progn)))", "(macrolet ((if (x) x)) (if 1 2))", "(locally (if 1 2))",
		"(macrolet ((m (a (b . c) &optional (d 5) &key e) \"doc\" (declare (foo)) (list 'list a b (list 'quote c) d e))) (m 1 (2 3 4) 6 :e 7))", "(locally (list 1 2 '(3 4) 6 7))",
		"(macrolet ((m (x) (return-from m (list 'f x)))) (m 1))", "(locally (f 1))", "(macrolet ((m nil (when 1 2))) (m))", "(locally 2)",
		"(let ((x 1)) (macrolet ((m nil (let ((x 5)) x))) (m)))", "(let ((x 1)) (locally 5))",
		"(tagbody (cond) (and 5) (and x) (or \"a\") x)", "(tagbody (progn nil) (progn 5) (progn x) \"a\" x)",
		"(dotimes (i 3) (cond))", "(block nil (let ((g0 3) (i 0)) (tagbody g1 (if (< i g0) (progn (tagbody (progn nil)) (setq i (+ i 1)) (go g1)))) nil))",
	)
}

// P22.1: macros of the user: the last one of a symbol; what they return, and how they end.
func TestUserMacros(t *testing.T) {
	w := newWorld(t)
	table := withMacros(t, w, macro.New(),
		"(defmacro m (x) 5)", "(defmacro m (x &rest y) (list 'list x (list 'quote y)))", "(defmacro when (x) (list 'unless x))", "(defmacro none () (values))", "(defmacro two () (values 1 2))",
		"(defmacro dotted (a . b) (list 'quote b))", "(defmacro fail () (car 5))", "(defmacro endless () (tagbody a (go a)))", "(defmacro ring () (let ((x (list 1))) (rplacd x x)))",
		"(defmacro shared () (let ((x (list 'f))) (list 'list x x)))", "(defmacro whole (x) (list 'quote x))", "(defmacro if (x) x)", "(defmacro decl () '(declare (special x)))",
		"(defmacro odd () (function car))", "(defmacro whatever (x) 7)", "(defmacro long () (let ((l '(1 2 3 4 5 6 7 8 9))) (dotimes (i 8) (setq l (append l l))) l))", "(defmacro large () (let ((l nil)) (dotimes (i 260) (setq l (cons i l))) (list 'quote (list l l l l l l l l))))")
	checkAll(t, table,
		"(m 1)", "(list 1 'nil)", "(m (m 2) 3 4)", "(list (list 2 'nil) '(3 4))", "(when a)", "(if a nil (progn))", "(none)", "nil", "(two)", "1", "(dotted 1 . 2)", "'2", "(shared)", "(list (f) (f))",
		"(if 1 2)", "", "(flet ((m (x) x)) (m 1))", "", "(odd)", "%::builtin", "(whatever #1=(a . #1#))", "7", "(progn (whatever #1=(a #1#)))", "(progn 7)",
	)
	for text, want := range map[string]lib.End{
		"(m)": {Kind: lib.EndFault}, "(f (fail))": {Kind: lib.EndFault}, "(endless)": {Kind: lib.EndLimit, Code: api.ErrSteps}, "(ring)": {Kind: lib.EndBad, Code: forms.ErrCircle},
		"(whole #1=(a #1#))": {Kind: lib.EndBad, Code: forms.ErrCircle}, "(let nil (decl))": {Kind: lib.EndBad, Code: api.ErrForm}, "(large)": {Kind: lib.EndBad, Code: api.ErrSize}, "(long)": {Kind: lib.EndBad, Code: api.ErrSize},
		"(m nowhere::a)": {Kind: lib.EndBad, Code: api.ErrNone}, "(m . 5)": {Kind: lib.EndFault}, "(list (quote #1=(a)) (whatever (quote #1#)))": {Kind: lib.EndBad, Code: forms.ErrLabel},
	} {
		f, n, end := macro.All(w, table, read(t, text), 0)
		if end.Kind != want.Kind || end.Code != want.Code || f.Kind+n != 0 {
			t.Errorf("%s: %s, %v", text, show(f), end)
		}
	}
	if _, _, end := macro.All(w, table, read(t, "(fail)"), 0); end.Fault.Type != "TYPE-ERROR" || len(end.Fault.Data) != 2 {
		t.Error(end)
	}
	if f, n, end := macro.All(nil, table, read(t, "(two)"), 0); !isBad(f, n, end, api.ErrArg) {
		t.Error(end)
	}
	if f, _, end := macro.All(nil, macro.New(), read(t, "(when a)"), 0); end.Kind != lib.EndValues || !forms.Equal(f, read(t, "(if a (progn))")) {
		t.Error(end)
	}
	for _, c := range []api.Core{{}, {Op: api.CoreConst, Data: lisp.Small(5)}, {Op: api.CoreLambda}} {
		odd := macro.Table{Macros: []macro.Macro{{Name: symbol("M"), Lambda: c}}}
		if f, n, end := macro.All(w, odd, read(t, "(m)"), 0); !isBad(f, n, end, api.ErrForm) {
			t.Error(end)
		}
	}
	small, _ := lib.New(2500, 100)
	long := lisp.Call("WHATEVER", lisp.List(slices.Repeat([]api.Form{lisp.Small(1)}, 500)...))
	for range 2000 {
		_, _, end := macro.All(small, table, long, 0)
		if end.Kind == lib.EndLimit && end.Code == api.ErrWords {
			return
		}
		if end.Kind != lib.EndValues {
			t.Fatal(end)
		}
	}
	t.Error("the heap never ends")
}

// P22.1: limits of calls, sizes and depths.
func TestLimits(t *testing.T) {
	w := newWorld(t)
	table := withMacros(t, w, macro.New(), "(defmacro m (x) (list 'm x))", "(defmacro deep (x) (list 'progn (list 'deep x)))", "(defmacro grow (x) (list 'progn x (list 'grow (list 'list x x))))", "(defmacro drop (x) 5)")
	calls := func(n int) api.Form { // n calls
		l := slices.Repeat([]api.Form{symbol("X")}, n-1)
		return lisp.Body("SYMBOL-MACROLET", read(t, "((x 1))"), l, []api.Form{lisp.Call("AND")})
	}
	wide := vector(1994)
	for _, c := range []struct {
		f    api.Form
		want api.Errno
	}{
		{read(t, "(m 1)"), api.ErrDepth}, {read(t, "(deep 1)"), api.ErrDepth}, {read(t, "(grow (f))"), api.ErrSize}, {read(t, "(symbol-macrolet ((x x)) x)"), api.ErrDepth},
		{read(t, "(symbol-macrolet ((x (f x))) x)"), api.ErrDepth}, {calls(1000), api.OK}, {calls(1001), api.ErrDepth},
		{nested(100), api.OK}, {nested(101), api.ErrDepth}, {lisp.Call("WHEN", symbol("A"), nested(98)), api.OK}, {lisp.Call("WHEN", symbol("A"), nested(99)), api.ErrDepth},
		{vector(1999), api.OK}, {vector(2000), api.ErrSize}, {lisp.Call("WHEN", symbol("A"), wide), api.ErrSize}, {lisp.Call("AND", symbol("A"), wide), api.ErrSize}, {lisp.Call("PROG1", vector(1990)), api.OK}, {lisp.Call("PROG1", vector(1991)), api.ErrSize},
		{lisp.Call("DROP", vector(1990)), api.OK}, {lisp.Call("LIST", lisp.Call("DROP", nested(98)), lisp.Small(1)), api.OK},
		{lisp.Call("LET", read(t, "((x (when a b)))"), nested(99)), api.OK}, {lisp.Call("LET", read(t, "((x (when a b)))"), nested(100)), api.ErrDepth},
		{lisp.Call("EVAL-WHEN", forms.Nil(), vector(1990)), api.OK}, {lisp.Call("TAGBODY", lisp.Call("AND", lisp.Call("AND")), vector(1980)), api.OK},
	} {
		f, n, end := macro.All(w, table, c.f, 0)
		if c.want == api.OK && end.Kind != lib.EndValues || c.want != api.OK && !isBad(f, n, end, c.want) {
			t.Errorf("%.80s: %v, expected %v", show(c.f), end, c.want)
		}
	}
	wraps := lisp.Call("TAGBODY", slices.Repeat([]api.Form{lisp.Call("COND")}, 499)...) // each becomes one larger
	if f, _, end := macro.All(w, table, wraps, 0); end.Kind != lib.EndValues || len(f.Kids) != 501 {
		t.Error(end)
	}
	wraps = lisp.Call("TAGBODY", slices.Repeat([]api.Form{lisp.Call("COND")}, 500)...)
	if f, n, end := macro.All(w, table, wraps, 0); !isBad(f, n, end, api.ErrSize) {
		t.Error(end)
	}
	left := lisp.Call("SYMBOL-MACROLET", lisp.List(lisp.List(symbol("X"), vector(1000))), symbol("X")) // what is left out makes room
	big := func(f api.Form, fresh int) (api.Form, int, api.Errno) { return vector(990), fresh, api.OK }
	odd := func(f api.Form, fresh int) (api.Form, int, api.Errno) {
		return api.Form{Kind: api.FormCons}, fresh, api.OK
	}
	others := macro.Table{Expanders: []macro.Named{{Name: "BIG", Expand: big}, {Name: "ODD", Expand: odd}}}
	if _, _, end := macro.All(w, others, lisp.Call("LIST", left, lisp.Call("BIG")), 0); end.Kind != lib.EndValues {
		t.Error(end)
	}
	if f, n, end := macro.All(w, others, lisp.Call("LIST", vector(1000), lisp.Call("BIG"), lisp.Call("BIG")), 0); !isBad(f, n, end, api.ErrSize) {
		t.Error(end)
	}
	if f, n, end := macro.All(w, others, lisp.Call("ODD"), 0); !isBad(f, n, end, api.ErrForm) {
		t.Error(end)
	}
	deep := read(t, "(macrolet ((a nil 1)) (macrolet ((b nil 2)) (list (a) (b))))")
	if f, _, end := macro.All(w, table, deep, 0); end.Kind != lib.EndValues || !forms.Equal(f, read(t, "(locally (locally (list 1 2)))")) {
		t.Error(show(f), end)
	}
}

// P22.1: a call of a symbol macro in SETQ counts, too.
func TestCountOfSetq(t *testing.T) {
	w := newWorld(t)
	for n, want := range map[int]api.Errno{999: api.OK, 1000: api.ErrDepth} {
		l := append(slices.Repeat([]api.Form{symbol("X")}, n), lisp.Call("SETQ", symbol("X"), lisp.Small(1)))
		f, k, end := macro.All(w, macro.New(), lisp.Body("SYMBOL-MACROLET", read(t, "((x 1))"), l), 0)
		if want == api.OK && end.Kind != lib.EndValues || want != api.OK && !isBad(f, k, end, want) {
			t.Errorf("%d: %v", n, end)
		}
	}
}

// hole returns the depth in which the symbol HOLE stands in a form.
func hole(f api.Form) int {
	if lisp.Is(f, "HOLE") {
		return 1
	}
	for _, kid := range f.Kids {
		if depth := hole(kid); depth > 0 {
			return depth + 1
		}
	}
	return 0
}

func filled(f, with api.Form) api.Form {
	if lisp.Is(f, "HOLE") {
		return with
	}
	return changed(f, func(k api.Form) api.Form { return filled(k, with) })
}

// P22.1: forms may be nested as deep as MaxDepth says, wherever they stand.
func TestDepthOfPlaces(t *testing.T) {
	w := newWorld(t)
	for _, text := range []string{
		"hole", "(f hole)", "(if a hole)", "(block a hole)", "(catch a hole)", "(load-time-value hole)", "(the a hole)", "(setq a hole)", "(tagbody a hole)", "(let nil hole)", "(let ((a hole)) b)", "(let* ((a 1) (b hole)) c)",
		"(function (lambda nil hole))", "(function (lambda (&optional (a hole))))", "(function (lambda (&key ((:a b) hole))))", "(function (lambda (&aux (a hole))))", "((lambda nil hole))", "((lambda nil 1) hole)", "((lambda (&optional (a hole)) a))",
		"(flet ((f nil hole)) 1)", "(flet ((f (&optional (a hole)))) 1)", "(flet nil hole)", "(labels ((f nil hole)) 1)", "(labels nil hole)", "(locally hole)", "(macrolet nil hole)", "(symbol-macrolet nil hole)", "(eval-when (load) hole)", "(unwind-protect a hole)",
	} {
		outer := read(t, text)
		for depth, want := range map[int]api.Errno{98: api.OK, 99: api.ErrDepth} {
			f := filled(outer, read(t, "(when a)")) // one deeper when it is expanded
			for range depth - hole(outer) {
				f = lisp.Call("LIST", f)
			}
			made, n, end := macro.All(w, macro.New(), f, 0)
			if want == api.OK && end.Kind != lib.EndValues || want != api.OK && !isBad(made, n, end, want) {
				t.Errorf("%s in %d: %v", text, depth, end)
			}
		}
	}
}

// P22.1: the function of a macro has 10000 steps.
func TestStepsOfMacros(t *testing.T) {
	w := newWorld(t)
	text := func(ones int) string {
		return "(defmacro m () (dotimes (i 600) i) (progn 1 1" + strings.Repeat(" 1", ones) + "))"
	}
	taken := func(table macro.Table) int {
		made, _ := meaning.Run(w, table.Macros[0].Lambda, api.MaxSteps)
		_, steps := meaning.Apply(w, made.Values[0], append(made.Values[:0:0], heap.Nil), api.MaxSteps)
		return steps
	}
	more := 10000 - taken(withMacros(t, w, macro.New(), text(0)))
	if more < 0 || more > 1500 {
		t.Fatal(more)
	}
	table := withMacros(t, w, macro.New(), text(more))
	if f, _, end := macro.All(w, table, read(t, "(m)"), 0); taken(table) != 10000 || end.Kind != lib.EndValues || !forms.Equal(f, lisp.Small(1)) {
		t.Error(taken(table), end)
	}
	table = withMacros(t, w, macro.New(), text(more+1))
	if _, _, end := macro.All(w, table, read(t, "(m)"), 0); end.Kind != lib.EndLimit || end.Code != api.ErrSteps {
		t.Error(end)
	}
}

// P22.1, P22.3: fresh variables are numbered on.
func TestFreshNumbers(t *testing.T) {
	w := newWorld(t)
	f, n, end := macro.All(w, macro.New(), read(t, "(list (or a b) (prog1 c) (dolist (x l)))"), 40)
	want := "(list (let ((g40 a)) (if g40 g40 b)) (let ((g41 c)) g41) (block nil (let ((g42 l) (x nil)) (tagbody g43 (if g42 (progn (setq x (car g42)) (tagbody) (setq g42 (cdr g42)) (go g43)))) (setq x nil) nil)))"
	if end.Kind != lib.EndValues || n != 44 || !forms.Equal(f, read(t, want)) {
		t.Error(show(f), n, end)
	}
	if f, n, end := macro.All(w, macro.New(), read(t, "(or a b)"), -1); end.Kind != lib.EndValues || n != 0 || !forms.Is(f.Kids[1].Kids[0].Kids[0], "%", "-1") {
		t.Error(show(f), n, end)
	}
	tree, e := core.Convert(f, nil)
	if e != api.OK || core.Check(tree) != api.OK {
		t.Error(e)
	}
}
