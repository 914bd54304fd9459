package meaning

import (
	"reflect"
	"strings"
	"testing"

	"commonform/api"
	"commonform/core"
	"commonform/heap"
	"commonform/lib"
)

// P21.1: constants, variables, functions and calls.
func TestForms(t *testing.T) {
	check(t, map[string]string{
		"5": "5", "\"a\"": "\"a\"", "(QUOTE (1 . X))": "(1 . x)", "NIL": "nil", ":K": ":k", "(PROGN)": "nil", "(PROGN 1 2)": "2", "(PROGN 1 (VALUES 2 3))": "2 3", "(PROGN (VALUES))": "", "(IF 1 2 3)": "2", "(IF NIL 2 3)": "3", "(IF (VALUES) 2 3)": "3", "(IF (VALUES NIL 1) 2 3)": "3", "(IF 1 (VALUES 2 3))": "2 3", "(IF NIL 1)": "nil",
		"(LET ((X 1)) X)": "1", "(LET ((X (VALUES 1 2)) (Y (VALUES))) (LIST X Y))": "(1 nil)", "(LET ((X 1)) (LET ((X 2) (Y X)) (LIST X Y)))": "(2 1)", "(LET* ((X 1) (Y X)) (SETQ X 5) (LIST X Y))": "(5 1)", "(LET ((X 1)) (SETQ X (VALUES 2 3)))": "2", "(LET () (VALUES 1 2))": "1 2", "(LET ((X 1)))": "nil",
		"X": "!UNBOUND-VARIABLE x", "(SETQ X 5)": "5", "(PROGN (SETQ X (VALUES 5 6)) X)": "5", "(SETQ X (VALUES 5 6))": "5", "(FUNCTION CAR)": "%::builtin", "(FUNCTION NOWHERE)": "!UNDEFINED-FUNCTION nowhere", "(CAR (QUOTE (1)))": "1", "(CAR 1)": "!TYPE-ERROR 1 list", "(CAR)": "!PROGRAM-ERROR car", "(NOWHERE (PRINC 1))": "[1] !UNDEFINED-FUNCTION nowhere", "(LIST (VALUES 1 2) (VALUES))": "(1 nil)", "(VALUES)": "", "(FLOOR 7 2)": "3 1",
		"(LIST (PRINC 1) (PRINC 2))": "[12] (1 2)", "(FUNCTION (LAMBDA ()))": "%::closure", "((LAMBDA (X) X) 5)": "5", "(FUNCALL (FUNCTION (LAMBDA (X Y) (LIST Y X))) 1 2)": "(2 1)", "(APPLY (FUNCTION (LAMBDA (X Y) (LIST Y X))) 1 (QUOTE (2)))": "(2 1)", "(FUNCALL (QUOTE CAR) NIL)": "nil", "(FUNCALL 5)": "!TYPE-ERROR 5 function", "(FUNCALL (FUNCTION FUNCALL) (FUNCTION (LAMBDA () (VALUES 1 2))))": "1 2",
		"(LET ((N 0)) (FLET ((F () (SETQ N (+ N 1)))) (F) (F) N))": "2", "(LABELS ((EVEN (N) (IF (= N 0) T (ODD (- N 1)))) (ODD (N) (IF (= N 0) NIL (EVEN (- N 1))))) (LIST (EVEN 10) (EVEN 7)))": "(t nil)", "(FLET ((F () 1)) (FLET ((F () (+ (F) 1))) (F)))": "2", "(LABELS ())": "nil", "(LET ((F (FUNCTION (LAMBDA (N) (FUNCTION (LAMBDA () (SETQ N (+ N 1)))))))) (LET ((A (FUNCALL F 1)) (B (FUNCALL F 10))) (FUNCALL A) (FUNCALL A) (LIST (FUNCALL A) (FUNCALL B))))": "(4 11)",
		"(MULTIPLE-VALUE-CALL (FUNCTION LIST) (VALUES 1 2) (VALUES) 3)": "(1 2 3)", "(MULTIPLE-VALUE-CALL (FUNCTION LIST))": "nil", "(MULTIPLE-VALUE-CALL (VALUES (FUNCTION LIST) 1) 2)": "(2)", "(MULTIPLE-VALUE-CALL (QUOTE LIST) 1)": "(1)", "(MULTIPLE-VALUE-CALL 5 (PRINC 1))": "[1] !TYPE-ERROR 5 function", "(MULTIPLE-VALUE-PROG1 (VALUES 1 2) (PRINC 3) (VALUES 4 5))": "[3] 1 2", "(MULTIPLE-VALUE-PROG1 (VALUES))": "",
		"(LET ((L NIL)) (TAGBODY (SETQ L (CONS 1 L)) A (SETQ L (CONS 2 L)) B (SETQ L (CONS 3 L))) L)": "(3 2 1)", "(TAGBODY 1 (QUOTE X))": "nil", "(LET ((I 0)) (TAGBODY A (SETQ I (+ I 1)) (IF (< I 5) (GO A))) I)": "5", "(TAGBODY (GO B) A (PRINC 1) (GO C) B (PRINC 2) (GO A) C)": "[21] nil", "(LET ((I 0)) (TAGBODY (FLET ((F () (GO B))) (F)) A (SETQ I 1) B) I)": "0", "(LET ((I 0)) (TAGBODY A (TAGBODY B (SETQ I (+ I 1)) (IF (< I 3) (GO A)))) I)": "3",
		"(LET ((FS NIL)) (LET ((I 0)) (TAGBODY A (LET ((J I)) (SETQ FS (CONS (FUNCTION (LAMBDA () J)) FS))) (SETQ I (+ I 1)) (IF (< I 3) (GO A)))) (LIST (FUNCALL (CAR FS)) (FUNCALL (CAR (CDR FS)))))": "(2 1)",
	})
}

// P21.1: parameters and arguments.
func TestParameters(t *testing.T) {
	with := func(parameters, args string) string {
		return "(FUNCALL (FUNCTION (LAMBDA (" + parameters + ") (LIST " + strings.Join(variables(parameters), " ") + "))) " + args + ")"
	}
	wrong := "!PROGRAM-ERROR %::closure"
	wanted := map[string]string{}
	for _, x := range [][3]string{
		{"A B", "1 2", "(1 2)"}, {"A B", "1", wrong}, {"A B", "1 2 3", wrong}, {"", "", "nil"}, {"", "1", wrong}, {"A &OPTIONAL B (C 5 D)", "1", "(1 nil 5 nil)"}, {"A &OPTIONAL B (C 5 D)", "1 2 NIL", "(1 2 nil t)"}, {"&OPTIONAL A", "1 2", wrong}, {"&OPTIONAL (A (VALUES 1 2)) (B A)", "", "(1 1)"}, {"&OPTIONAL (A 1) (B (LIST A)) (C (LIST B))", "7", "(7 #0=(7) (#0#))"}, {"&REST A", "", "(nil)"}, {"A &REST B", "1 2 3", "(1 (2 3))"}, {"A &REST B", "", wrong}, {"&OPTIONAL A &REST B", "1", "(1 nil)"},
		{"&KEY A (B 5 C)", "", "(nil 5 nil)"}, {"&KEY A (B 5 C)", ":B 1 :A 2", "(2 1 t)"}, {"&KEY A", ":A 1 :A 2", "(1)"}, {"&KEY A", ":A", wrong}, {"&KEY A", ":B 1", wrong}, {"&KEY A", "5 1", wrong}, {"&KEY A", "(QUOTE A) 1", wrong}, {"&KEY A &ALLOW-OTHER-KEYS", ":B 1 :A 2", "(2)"}, {"&KEY A &ALLOW-OTHER-KEYS", ":B", wrong}, {"&KEY A &ALLOW-OTHER-KEYS", "5 1", wrong}, {"&KEY &ALLOW-OTHER-KEYS", ":B 1", "nil"}, {"&KEY &ALLOW-OTHER-KEYS", ":B", wrong}, {"&KEY A", ":ALLOW-OTHER-KEYS T :B 1", "(nil)"}, {"&KEY A", ":ALLOW-OTHER-KEYS NIL :B 1", wrong}, {"&KEY A", ":ALLOW-OTHER-KEYS NIL :A 1", "(1)"}, {"&KEY A", ":ALLOW-OTHER-KEYS NIL :ALLOW-OTHER-KEYS T :B 1", wrong}, {"&KEY A", ":B 1 :ALLOW-OTHER-KEYS T", "(nil)"}, {"&KEY A", ":ALLOW-OTHER-KEYS T 5 1", wrong},
		{"A &KEY ((K B) A)", "1 (QUOTE K) 2", "(1 2)"}, {"A &KEY ((K B) A)", "1", "(1 1)"}, {"&OPTIONAL A &REST B &KEY C", "1 :C 2", "(1 (:c 2) 2)"}, {"&OPTIONAL A &KEY C", ":C", "(:c nil)"}, {"&REST A &KEY B", "1", wrong}, {"&AUX (A 1) (B A)", "", "(1 1)"}, {"&KEY ((#:K A) 3)", "", "(3)"}, {"&KEY ((#:K A) 3)", ":K 1", wrong}, {"&KEY ((#:K A) 3)", "(QUOTE #:K) 1", "(1)"}, {"&KEY ((:K A)) ((K B))", "(QUOTE K) 1 :K 2", "(2 1)"},
	} {
		wanted[with(x[0], x[1])] = x[2]
	}
	check(t, wanted)
	check(t, map[string]string{
		"(FUNCALL (FUNCTION (LAMBDA (&OPTIONAL (A (PRINC 1)) (B (PRINC 2)) &KEY (C (PRINC 3)) (D (PRINC 4))))) 5)": "[234] nil", "(FUNCALL (FUNCTION (LAMBDA (A &OPTIONAL (B (PRINC 1)) &KEY (C (PRINC 3))))))": wrong, "(FUNCALL (FUNCTION (LAMBDA (&OPTIONAL (A (PRINC 1)) &KEY B))) 1 :C 2)": wrong,
		"(BLOCK X (FUNCALL (FUNCTION (LAMBDA (&OPTIONAL (A (RETURN-FROM X 7))) 8))))": "7", "(LET ((L NIL)) (FUNCALL (FUNCTION (LAMBDA (&OPTIONAL (A 1) (F (FUNCTION (LAMBDA () A)))) (SETQ A 5) (FUNCALL F)))))": "5", "(FLET ((F (&OPTIONAL (X 1)) (DECLARE (SPECIAL X)) (G X))) (LET ((X 2)) (DECLARE (SPECIAL X)) (LIST X (FUNCALL (FUNCTION (LAMBDA (X) (DECLARE (SPECIAL X)) (SYMBOL-VALUE (QUOTE X)))) 3) X)))": "(2 3 2)",
	})
}

// variables returns the variables of a list of parameters.
func variables(parameters string) []string {
	var all []string
	for _, word := range strings.FieldsFunc(parameters, func(c rune) bool { return c == ' ' || c == '(' || c == ')' }) {
		if len(word) == 1 && word >= "A" && word <= "H" && !strings.Contains(strings.Join(all, " "), word) {
			all = append(all, word)
		}
	}
	return all
}

// P21.1: blocks, catches and cleanups.
func TestExits(t *testing.T) {
	check(t, map[string]string{
		"(BLOCK A 1 2)": "2", "(BLOCK A (VALUES 1 2))": "1 2", "(BLOCK A (PRINC 1) (RETURN-FROM A (VALUES 2 3)) (PRINC 4))": "[1] 2 3", "(BLOCK A (LIST 1 (RETURN-FROM A 5)))": "5", "(BLOCK A (RETURN-FROM A (VALUES)))": "", "(BLOCK A (BLOCK B (RETURN-FROM A 1)) 2)": "1", "(BLOCK A (BLOCK A (RETURN-FROM A 1)) 2)": "2", "(LIST (BLOCK A (RETURN-FROM A (VALUES 1 2))))": "(1)",
		"(BLOCK A (FUNCALL (FUNCTION (LAMBDA () (RETURN-FROM A 1)))) 2)": "1", "(FUNCALL (BLOCK A (FUNCTION (LAMBDA () (RETURN-FROM A 1)))))": "!CONTROL-ERROR", "(LET ((F NIL)) (TAGBODY A (SETQ F (FUNCTION (LAMBDA () (GO A))))) (FUNCALL F))": "!CONTROL-ERROR", "(LABELS ((F (N G) (IF (= N 0) (FUNCALL G) (BLOCK A (F (- N 1) (IF G G (FUNCTION (LAMBDA () (RETURN-FROM A N))))) (PRINC N))))) (F 3 NIL))": "3", "(LABELS ((F (N) (BLOCK A (IF (= N 0) (RETURN-FROM A 7)) (F (- N 1)) (PRINC N)))) (F 3))": "[123] 3",
		"(CATCH (QUOTE A) 1)": "1", "(CATCH (QUOTE A) (PRINC 1) (THROW (QUOTE A) (VALUES 2 3)) 4)": "[1] 2 3", "(CATCH 5 (CATCH 5 (THROW 5 1)) 2)": "2", "(CATCH 5 (CATCH 6 (THROW 5 1)) 2)": "1", "(THROW 5 (PRINC 1))": "[1] !CONTROL-ERROR 5", "(CATCH \"a\" (THROW \"a\" 1))": "!CONTROL-ERROR \"a\"", "(CATCH 99999999999999999999 (THROW 99999999999999999999 1))": "1", "(CATCH 1.5 (THROW 1.5 1))": "1", "(CATCH 1.5 (THROW 1.5d0 1))": "!CONTROL-ERROR 1.5d0", "(CATCH #C(1 2) (THROW #C(1 2) 1))": "1", "(CATCH #C(1 2) (THROW #C(1 3) 1))": "!CONTROL-ERROR #C(1 3)", "(CATCH #\\a (THROW #\\a 1))": "1", "(FLET ((F () (THROW 1 2))) (CATCH 1 (F) 3))": "2", "(CATCH (VALUES 1 2) (THROW (VALUES 1 3) 4))": "4", "(CATCH 1 (THROW (THROW 1 2) 3))": "2", "(CATCH 1 (THROW 1 (THROW 1 2)))": "2", "(PROGN (CATCH 1) (THROW 1 2))": "!CONTROL-ERROR 1",
		"(UNWIND-PROTECT (VALUES 1 2) (PRINC 3) (VALUES 4 5))": "[3] 1 2", "(BLOCK A (UNWIND-PROTECT (RETURN-FROM A (VALUES 1 2)) (PRINC 3)))": "[3] 1 2", "(BLOCK A (UNWIND-PROTECT (UNWIND-PROTECT (RETURN-FROM A 1) (PRINC 2)) (PRINC 3)))": "[23] 1", "(BLOCK A (UNWIND-PROTECT (RETURN-FROM A 1) (RETURN-FROM A 2)))": "2", "(BLOCK B (BLOCK A (UNWIND-PROTECT (RETURN-FROM B 1) (RETURN-FROM A 2))) (PRINC 3) 4)": "[3] 4", "(BLOCK A (UNWIND-PROTECT 1 (RETURN-FROM A 2)))": "2", "(UNWIND-PROTECT (CAR 1) (PRINC 2))": "[2] !TYPE-ERROR 1 list", "(BLOCK A (UNWIND-PROTECT (CAR 1) (RETURN-FROM A 2)))": "2", "(UNWIND-PROTECT (CAR 1) (CAR 2))": "!TYPE-ERROR 2 list", "(CATCH 1 (UNWIND-PROTECT (THROW 1 2) (THROW 1 3)))": "3", "(UNWIND-PROTECT (THROW 1 2) (PRINC 3))": "[3] !CONTROL-ERROR 1", "(TAGBODY (UNWIND-PROTECT (GO A) (PRINC 1)) (PRINC 2) A (PRINC 3))": "[13] nil",
		"(CATCH 1 (CATCH 2 (UNWIND-PROTECT (THROW 1 5) (THROW 2 6))) 7)": "7", "(BLOCK A (LET ((F (FUNCTION (LAMBDA () (RETURN-FROM A 1))))) (UNWIND-PROTECT (FUNCALL F) (PRINC 2))))": "[2] 1", "(BLOCK A (UNWIND-PROTECT (BLOCK B (RETURN-FROM A 1)) (PRINC 2)) (PRINC 3))": "[2] 1", "(LET ((F NIL)) (BLOCK A (UNWIND-PROTECT (BLOCK B (SETQ F (FUNCTION (LAMBDA () (RETURN-FROM B 1)))) (RETURN-FROM A 2)) (FUNCALL F))))": "!CONTROL-ERROR",
	})
}

// P21.1: dynamic bindings.
func TestDynamic(t *testing.T) {
	s := "(DECLARE (SPECIAL S U)) "
	check(t, map[string]string{
		"(LET ((S 1)) " + s + "S)": "1", "(PROGN (SETQ S 1) (LIST (LET ((S 2)) " + s + "(SETQ S 3) S) S))": "(3 1)", "(PROGN (LET ((S 2)) " + s + "S) (BOUNDP (QUOTE S)))": "nil", "(PROGN (SETQ S 1) (BLOCK A (LET ((S 2)) " + s + "(RETURN-FROM A S))) S)": "1", "(PROGN (SETQ S 1) (CATCH 1 (LET ((S 2)) " + s + "(THROW 1 S))) S)": "1", "(PROGN (SETQ S 1 U 2) (LET ((S U) (U S)) " + s + "(LIST S U)))": "(2 1)", "(LET ((S 1)) " + s + "(MAKUNBOUND (QUOTE S)) S)": "!UNBOUND-VARIABLE s", "(PROGN (SETQ S 1) (LET ((S 2)) " + s + "(MAKUNBOUND (QUOTE S))) S)": "1", "(LET ((S 1)) " + s + "(FLET ((F () S)) (LET ((S 2)) " + s + "(F))))": "2",
		"(PROGN (SETQ S 1) (LIST (LET ((S (VALUES 2 3))) " + s + "(VALUES S 4)) S))": "(2 1)", "(LET ((S 1)) " + s + "(VALUES S 2))": "1 2", "(UNWIND-PROTECT (LET ((S 1)) " + s + "(CAR S)) (PRINC (BOUNDP (QUOTE S))))": "[nil] !TYPE-ERROR 1 list", "(BLOCK A (UNWIND-PROTECT (LET ((S 1)) " + s + "(UNWIND-PROTECT (RETURN-FROM A S) (PRINC S))) (PRINC (BOUNDP (QUOTE S)))))": "[1nil] 1",
		"(PROGV (QUOTE (S U)) (LIST 1 2) (LIST (SYMBOL-VALUE (QUOTE S)) (SYMBOL-VALUE (QUOTE U))))": "(1 2)", "(PROGN (SETQ S 1 U 2) (PROGV (QUOTE (S U)) (QUOTE (3)) (LIST S (BOUNDP (QUOTE U)))))": "(3 nil)", "(PROGN (SETQ S 1 U 2) (PROGV (QUOTE (S U)) (QUOTE (3))) (LIST S U))": "(1 2)", "(PROGV (QUOTE (S)) (QUOTE (1 2 3)) S)": "1", "(PROGV NIL NIL (VALUES 1 2))": "1 2", "(PROGV (QUOTE (S S)) (QUOTE (1 2)) S)": "2", "(PROGN (SETQ S 0) (PROGV (QUOTE (S S)) (QUOTE (1 2)) S) S)": "0", "(PROGN (PROGV (QUOTE (S)) (QUOTE (1)) (SETQ S 5)) (BOUNDP (QUOTE S)))": "nil",
		"(PROGV 5 NIL 1)": "!TYPE-ERROR 5 list", "(PROGV NIL 5 1)": "!TYPE-ERROR 5 list", "(PROGV 5 6 1)": "!TYPE-ERROR 5 list", "(PROGV (QUOTE (S . U)) NIL 1)": "!TYPE-ERROR (s . u) list", "(PROGV (QUOTE (S 5)) (QUOTE (1 . 2)) 1)": "!TYPE-ERROR (1 . 2) list", "(PROGV (QUOTE (S 5 6)) (QUOTE (1 2)) 1)": "!TYPE-ERROR 5 symbol", "(PROGV (QUOTE (S T)) (QUOTE (1 2)) 1)": "!PROGRAM-ERROR t", "(PROGV (QUOTE (S NIL 5)) NIL 1)": "!TYPE-ERROR 5 symbol", "(PROGV (QUOTE (S :K)) (QUOTE (1 2)) 1)": "!PROGRAM-ERROR :k", "(LET ((X (QUOTE (S)))) (RPLACD X X) (PROGV X NIL 1))": "!TYPE-ERROR #0=(s . #0#) list",
	})
	for _, text := range []string{"(PROGV (QUOTE (S T)) (QUOTE (1 2)) 1)", "(PROGV (QUOTE (S 5)) (QUOTE (1 2)) 1)", "(PROGV (QUOTE (S)) 5 1)"} {
		w := newTester(t, 20000)
		w.run(text)
		if x, _ := w.Value(w.symbol("S")); x != heap.Unbound {
			t.Errorf("%s has changed S", text)
		}
	}
	w := newTester(t, 20000)
	keyword := "1:KEYWORD:K"
	for text, want := range map[string]string{"(setspecial " + keyword + " (const 2::1))": "!PROGRAM-ERROR :k", "(bind [1:COMMON-LISP-USER:S " + keyword + "] (const 2::1) (const 2::2) (const 2::3))": "!PROGRAM-ERROR :k", "(special " + keyword + ")": ":k"} {
		end, _ := Run(w.World, parse(t, text), 100)
		if got := w.told(end); got != want {
			t.Errorf("%s: %s; want %s", text, got, want)
		}
	}
	if x, _ := w.Value(w.symbol("S")); x != heap.Unbound {
		t.Error("a symbol ahead of a constant was bound")
	}
}

// P21.1: the object of a constant is the same each time in a run, and another one in another run.
func TestConstants(t *testing.T) {
	check(t, map[string]string{
		"(LET ((L NIL) (I 0)) (TAGBODY A (SETQ L (CONS \"a\" L)) (SETQ I (+ I 1)) (IF (< I 2) (GO A))) (EQ (CAR L) (CAR (CDR L))))": "t", "(EQ \"a\" \"a\")": "nil", "(FLET ((F () (QUOTE #:X))) (EQ (F) (F)))": "t", "(LET ((X (QUOTE (1)))) (RPLACA X 2) X)": "(2)", "(FLET ((F () (QUOTE (1)))) (RPLACA (F) 2) (F))": "(2)",
	})
	w := newTester(t, 20000)
	c := w.tree("(FUNCTION (LAMBDA () \"a\"))")
	end, _ := Run(w.World, c, 100)
	f := end.Values[0]
	a, _ := Apply(w.World, f, nil, 100)
	b, _ := Apply(w.World, f, nil, 100)
	if a.Values[0] == b.Values[0] || w.told(a) != "\"a\"" {
		t.Error("two runs have the same object of a constant")
	}
	w.want_(w.Register("TWICE", 1, 1, func(l []heap.Word) lib.Answer {
		a, _ := Apply(w.World, l[0], nil, 100)
		b, _ := Apply(w.World, l[0], nil, 100)
		return lib.Answer{Values: []heap.Word{a.Values[0], b.Values[0]}}
	}))
	end, _ = Run(w.World, w.tree("(LET ((F (FUNCTION (LAMBDA () \"a\")))) (MULTIPLE-VALUE-CALL (FUNCTION (LAMBDA (A B) (EQ A B))) (TWICE F)))"), 1000)
	if w.told(end) != "t" {
		t.Errorf("parts of a run: %s", w.told(end))
	}
}

func (w tester) want_(e api.Errno) {
	w.t.Helper()
	if e != api.OK {
		w.t.Errorf("unexpected %v", e)
	}
}

// P21.1: what is wrong ahead of a run, or in its tree.
func TestBad(t *testing.T) {
	w := newTester(t, 20000)
	large := api.Core{Op: api.CoreProgn}
	for range api.MaxForm {
		large.Kids = append(large.Kids, api.Core{Op: api.CoreProgn})
	}
	bad := func(what string, end lib.End, steps int, want api.Errno) {
		t.Helper()
		if !reflect.DeepEqual(end, lib.End{Kind: lib.EndBad, Code: want}) || steps != 0 {
			t.Errorf("%s: %+v, %d steps; want %v", what, end, steps, want)
		}
	}
	for _, x := range []struct {
		w    *lib.World
		c    api.Core
		want api.Errno
	}{{w.World, api.Core{}, api.ErrForm}, {w.World, api.Core{Op: api.CoreVar}, api.ErrForm}, {w.World, large, api.ErrSize}, {nil, api.Core{Op: api.CoreProgn}, api.ErrArg}, {nil, api.Core{}, api.ErrForm}, {&lib.World{}, api.Core{Op: api.CoreProgn}, api.ErrArg}} {
		end, steps := Run(x.w, x.c, 100)
		bad("Run", end, steps, x.want)
	}
	end, steps := Apply(nil, heap.Nil, nil, 100)
	bad("Apply", end, steps, api.ErrArg)
	if _, e := Closure(nil, heap.Nil); e != api.ErrArg {
		t.Errorf("Closure of no world: %v", e)
	}
	long := strings.Repeat("A", api.MaxName+1)
	for text, want := range map[string]api.Errno{
		"(special 1:NOWHERE:X)": api.ErrNone, "(const 1:NOWHERE:X)": api.ErrNone, "(const 10::(2::1 1:NOWHERE:X))": api.ErrNone, "(setspecial 1:NOWHERE:X (const 2::1))": api.ErrNone, "(function 1:NOWHERE:X)": api.ErrNone, "(callglobal 1:NOWHERE:X)": api.ErrNone, "(bind [1:NOWHERE:X] (const 2::1) (progn))": api.ErrNone, "(call (lambda 0 {4 0 -1 1:NOWHERE:K} (const 2::1) (var 0)))": api.ErrNone, "(special 1:COMMON-LISP-USER:" + long + ")": api.ErrSize, "(const 1::" + long + ")": api.ErrSize,
	} {
		tree := "(let [9] (const 2::1) (protect " + text + " (setspecial 1:COMMON-LISP-USER:CLEANED (const 2::1))))"
		end, steps := Run(w.World, parse(t, tree), 100)
		if end.Kind != lib.EndBad || end.Code != want || steps < 3 {
			t.Errorf("%s: %+v, %d steps; want %v", text, end, steps, want)
		}
	}
	if x, _ := w.Value(w.symbol("CLEANED")); x != heap.Unbound {
		t.Error("a cleanup was run")
	}
	if got := w.told(first(Run(w.World, parse(t, "(if (const 2::1) (const 2::2) (special 1:NOWHERE:X))"), 100))); got != "2" {
		t.Errorf("a symbol that is not met: %s", got)
	}
	for i := 0; ; i++ {
		if _, _, e := w.Symbols().Intern(user, "FILL"+string(rune('A'+i/60))+string(rune('A'+i%60))); e != api.OK {
			break
		}
	}
	if end, _ := Run(w.World, parse(t, "(special 1:COMMON-LISP-USER:UNKNOWN)"), 100); end.Kind != lib.EndBad || end.Code != api.ErrFull {
		t.Errorf("too many symbols: %+v", end)
	}
	if got := w.told(first(Run(w.World, w.tree("(CAR 1)"), 100))); got != "!TYPE-ERROR 1 list" {
		t.Errorf("a fault without room for the symbol of its function: %s", got)
	}
}

func first(end lib.End, _ int) lib.End { return end }

// P21.1, P21.4: steps.
func TestSteps(t *testing.T) {
	for text, want := range map[string]int{
		"5": 1, "(PROGN)": 1, "(PROGN 1 2)": 3, "(LIST 1 2)": 4, "(FUNCALL (FUNCTION LIST) 1)": 4, "(LET ((X 1)) X)": 3, "((LAMBDA (X) X) 1)": 5, "((LAMBDA (&OPTIONAL (X 1)) X))": 5, "(FUNCALL (FUNCTION (LAMBDA ())))": 5, "(BLOCK A (RETURN-FROM A 1))": 3, "(TAGBODY (GO A) A)": 3, "(UNWIND-PROTECT 1 2)": 3, "(IF 1 2 3)": 3, "(CAR 1)": 3, "X": 1, "(NOWHERE 1)": 2, "(CATCH 1 (THROW 1 2))": 5, "(MULTIPLE-VALUE-CALL (FUNCTION LIST) 1)": 4,
	} {
		w := newTester(t, 20000)
		c := w.tree(text)
		_, steps := Run(w.World, c, 100)
		if steps != want {
			t.Errorf("%s takes %d steps; want %d", text, steps, want)
		}
		for n := range want {
			end, steps := Run(w.World, c, n)
			if !reflect.DeepEqual(end, lib.End{Kind: lib.EndLimit, Code: api.ErrSteps}) || steps != n {
				t.Errorf("%s with %d steps: %s, %d", text, n, w.told(end), steps)
			}
		}
	}
	w := newTester(t, 20000)
	loop := w.tree("(TAGBODY A (GO A))")
	for n, want := range map[int]int{-5: 0, 0: 0, 7: 7, api.MaxSteps: api.MaxSteps, api.MaxSteps + 1: api.MaxSteps, 1 << 62: api.MaxSteps} {
		end, steps := Run(w.World, loop, n)
		if end.Kind != lib.EndLimit || end.Code != api.ErrSteps || steps != want {
			t.Errorf("a loop with %d steps: %s, %d", n, w.told(end), steps)
		}
	}
	car, _ := w.Symbol(lisp, "CAR")
	if end, steps := Apply(w.World, car, []heap.Word{heap.Nil}, 0); end.Kind != lib.EndLimit || steps != 0 {
		t.Errorf("Apply without steps: %s, %d", w.told(end), steps)
	}
	if end, steps := Apply(w.World, car, []heap.Word{heap.Nil}, 1); w.told(end) != "nil" || steps != 1 {
		t.Errorf("Apply: %s, %d", w.told(end), steps)
	}
}

// P21.1, P21.3: limits end a run at once: no cleanup is run, and bindings stay.
func TestLimits(t *testing.T) {
	for text, want := range map[string]string{
		"(LABELS ((F () (+ 1 (F)))) (F))": "limit 12", "(LABELS ((F () (LIST (F) 1))) (F))": "limit 12", "(LET ((L NIL)) (TAGBODY A (SETQ L (LIST L L)) (GO A)))": "limit 11", "(TAGBODY A (GO A))": "limit 10", "(LABELS ((F (N) (IF (= N 0) 0 (+ 1 (F (- N 1)))))) (F 500))": "500", "(TAGBODY A (PRINT \"0123456789012345678901234567890123456789\") (GO A))": "limit 14",
	} {
		w := newTester(t, 20000)
		end, _ := Run(w.World, w.tree(text), api.MaxSteps)
		if got := w.told(end); got != want {
			t.Errorf("%s: %s; want %s", text, got, want)
		}
		if strings.HasPrefix(want, "limit") {
			w := newTester(t, 20000)
			w.symbol("S")
			w.symbol("CLEANED")
			Run(w.World, w.tree("(LET ((S 1)) (DECLARE (SPECIAL S)) (UNWIND-PROTECT "+text+" (SETQ CLEANED 1)))"), api.MaxSteps)
			s, _ := w.Value(w.symbol("S"))
			cleaned, _ := w.Value(w.symbol("CLEANED"))
			if cleaned != heap.Unbound || s != fixnum(1) {
				t.Errorf("%s: a cleanup was run, or S is %d", text, s)
			}
		}
	}
	if got := newTester(t, 20000).run("(LABELS ((F (N) (IF (= N 0) 7 (F (- N 1))))) (F 2500))"); got != "7" {
		t.Errorf("a call in the place of its function's value needs no depth: %s", got)
	}
}

// P21.1: what a world says of a fault.
func TestFaults(t *testing.T) {
	define := func(body string) string {
		return "(PROGN (%FSET (QUOTE COMMON-LISP::%FAULT) (FUNCTION (LAMBDA (TYPE DATA) " + body + "))) "
	}
	check(t, map[string]string{
		define("(PRINC TYPE) (PRINC DATA) 5") + "(LIST (CAR 1)))": "[type-error(1 list)] !TYPE-ERROR 1 list", "(BLOCK A " + define("(RETURN-FROM A (LIST TYPE DATA))") + "(LIST (CAR 1))))": "(type-error (1 list))", "(CATCH 1 " + define("(THROW 1 DATA)") + "(+ 1 X)))": "(x)", "(CATCH 1 " + define("(THROW 1 TYPE)") + "(/ 1 0)))": "division-by-zero", define("NIL") + "(UNWIND-PROTECT (CAR 1) (PRINC 2)))": "[2] !TYPE-ERROR 1 list", define("(PRINC S)") + "(LET ((S 1)) (DECLARE (SPECIAL S)) (CAR S)))": "[1] !TYPE-ERROR 1 list",
		"(BLOCK A " + define("(IF (CDR DATA) (CAR X) (RETURN-FROM A DATA))") + "(CAR 1)))": "(x)", define("NIL") + "(UNWIND-PROTECT (CAR 1) (CAR 2)))": "!TYPE-ERROR 2 list", "(PROGN (SET (QUOTE COMMON-LISP::%FAULT) 5) (CAR 1))": "!TYPE-ERROR 1 list", "(PROGN (%FSET (QUOTE COMMON-LISP::%FAULT) (FUNCTION LIST)) (CAR 1))": "!TYPE-ERROR 1 list", "(PROGN (%FSET (QUOTE COMMON-LISP::%FAULT) (FUNCTION CAR)) (CAR 1))": "limit 12",
	})
	if got := newTester(t, api.MaxWords).run("(BLOCK A " + define("(CAR 5)") + "(CAR 1)))"); got != "limit 12" {
		t.Errorf("a %%FAULT with faults of its own: %s", got)
	}
	w := newTester(t, 20000)
	for _, text := range []string{"(CAR 1)", "(NOWHERE)", "X", "(THROW 1 2)", "(FUNCALL (BLOCK A (FUNCTION (LAMBDA () (RETURN-FROM A 1)))))", "(SETQ COMMON-LISP::T2 (PROGV 5 5))", "((LAMBDA (X)))"} {
		_, _, e := w.Symbols().Find(lisp, "%FAULT")
		_, status, _ := w.Symbols().Find(lisp, "%FAULT")
		if text == "(CAR 1)" && status != 0 {
			t.Errorf("%%FAULT is there ahead of a fault: %v", e)
		}
		w.run(text)
		if _, status, _ := w.Symbols().Find(lisp, "%FAULT"); status != 1 {
			t.Errorf("%%FAULT has the status %d behind a fault", status)
		}
	}
	x, _ := w.Symbol(lisp, "%FAULT")
	w.SetFunction(x, fixnum(5))
	if got := w.run("(CAR 1)"); got != "!TYPE-ERROR 1 list" {
		t.Errorf("with a %%FAULT that is no function: %s", got)
	}
}

// P21.1: closures as objects.
func TestClosures(t *testing.T) {
	w := newTester(t, 20000)
	c := w.tree("(LET ((X 5)) (FUNCTION (LAMBDA (Y &OPTIONAL (Z (LIST X Y))) (SETQ X (+ X Y)))))")
	end, _ := Run(w.World, c, 100)
	f := end.Values[0]
	h := w.Heap()
	lambda, e := Closure(w.World, f)
	s, _ := core.Show(api.Core{Op: api.CoreLet, Vars: []int{3}, Kids: []api.Core{{Op: api.CoreProgn}, lambda}})
	want, _ := core.Show(api.Core{Op: api.CoreLet, Vars: []int{3}, Kids: []api.Core{{Op: api.CoreProgn}, c.Kids[1]}})
	if e != api.OK || s != want || h.Kind(f) != heap.KindClosure || h.Len(f) != 2 {
		t.Errorf("Closure: %s, %v; want %s", s, e, want)
	}
	index, _ := h.Get(f, 0)
	environment, _ := h.Get(f, 1)
	entry, _ := h.Get(environment, 0)
	variable, _ := h.Get(entry, 0)
	cell, _ := h.Get(entry, 1)
	value, _ := h.Get(cell, 0)
	if _, ok := index.Fixnum(); !ok || h.Kind(environment) != heap.KindCons || variable != fixnum(c.Vars[0]) || h.Kind(cell) != heap.KindBox || value != fixnum(5) {
		t.Errorf("the environment has %d and %d", variable, value)
	}
	if rest, _ := h.Get(environment, 1); rest != heap.Nil {
		t.Error("a closure has taken more than it uses")
	}
	for _, text := range []string{"(LET ((X 1)) (FUNCTION (LAMBDA (Y &OPTIONAL (Z Y A)) (LIST Y Z A))))", "(FUNCTION (LAMBDA () (BLOCK B (RETURN-FROM B 1))))", "(FUNCTION (LAMBDA () (TAGBODY A (GO A))))", "(FUNCTION (LAMBDA () (LABELS ((F () (F))) (LET ((X 1)) (SETQ X 2)))))"} {
		end, _ := Run(w.World, w.tree(text), 100)
		if environment, _ := h.Get(end.Values[0], 1); environment != heap.Nil {
			t.Errorf("%s has an environment", text)
		}
	}
	end, steps := Apply(w.World, f, []heap.Word{fixnum(2)}, 100)
	if value, _ = h.Get(cell, 0); w.told(end) != "7" || value != fixnum(7) || steps != 10 {
		t.Errorf("Apply: %s, %d steps; the cell has %d", w.told(end), steps, value)
	}
	if end, _ := Apply(w.World, f, nil, 100); w.told(end) != "!PROGRAM-ERROR %::closure" {
		t.Errorf("Apply without arguments: %s", w.told(end))
	}
	w.SetFunction(w.symbol("F"), f)
	if end, _ := Apply(w.World, w.symbol("F"), []heap.Word{fixnum(1)}, 100); w.told(end) != "8" {
		t.Errorf("Apply of a symbol: %s", w.told(end))
	}
	lambda.Pars[0].Var = 99
	lambda.Kids[0].Kids[0].N = 99
	again, _ := Closure(w.World, f)
	if again.Pars[0].Var == 99 || again.Kids[0].Kids[0].N == 99 {
		t.Error("a closure has changed with what Closure returned")
	}
	c.Kids[1].Kids[1].Kids[0].Data.Text = "CHANGED"
	if end, _ := Apply(w.World, f, []heap.Word{fixnum(1)}, 100); w.told(end) != "9" {
		t.Errorf("a closure has changed with its tree: %s", w.told(end))
	}
	for _, x := range []heap.Word{heap.Nil, fixnum(5), 7, 1<<40 | 3, w.object(heap.KindClosure), w.object(heap.KindClosure, fixnum(99), heap.Nil), w.object(heap.KindClosure, fixnum(5), heap.Nil), w.object(heap.KindClosure, fixnum(-1), heap.Nil), w.object(heap.KindClosure, heap.Nil, heap.Nil), w.object(heap.KindClosure, fixnum(0), heap.Nil, heap.Nil), w.object(heap.KindCode, fixnum(0), heap.Nil)} {
		if c, e := Closure(w.World, x); e != api.ErrType || c.Op != 0 {
			t.Errorf("Closure of the word %d: %v", x, e)
		}
		Apply(w.World, x, nil, 100)
	}
	circle := w.object(heap.KindCons, fixnum(5), heap.Nil)
	h.Set(circle, 1, circle)
	for _, environment := range []heap.Word{heap.Nil, circle, fixnum(5), w.object(heap.KindCons, circle, fixnum(3))} {
		Apply(w.World, w.object(heap.KindClosure, index, environment), []heap.Word{0}, 100)
	}
	for _, bad := range []heap.Word{7, 1<<40 | 3} {
		for _, x := range [][2]heap.Word{{bad, 0}, {f, bad}, {w.symbol("F"), bad}} {
			if end, _ := Apply(w.World, x[0], x[1:], 100); end.Kind != lib.EndLimit || end.Code != heap.ErrWord {
				t.Errorf("Apply with a bad word: %s", w.told(end))
			}
		}
	}
}

// object makes an object with fields.
func (w tester) object(kind int, fields ...heap.Word) heap.Word {
	w.t.Helper()
	x, e := w.Heap().New(kind, len(fields))
	w.want_(e)
	for i, field := range fields {
		w.Heap().Set(x, i, field)
	}
	return x
}

// P21.1: closures that are moved.
func TestMoved(t *testing.T) {
	w := newTester(t, 20000)
	end, _ := Run(w.World, w.tree("(LET ((X 5)) (LABELS ((F () (SETQ X (+ X 1)) (IF (< X 8) (F) X))) (FUNCTION F)))"), 100)
	root := w.Heap().Root(end.Values[0])
	var keep []heap.Word
	for _, x := range w.Heap().Objects() {
		if x != heap.Nil {
			keep = append([]heap.Word{x}, keep...)
		}
	}
	w.want_(w.Heap().Keep(keep, nil))
	f, _ := w.Heap().At(root)
	if end, _ := Apply(w.World, f, nil, 1000); w.told(end) != "8" {
		t.Errorf("a closure that was moved: %s", w.told(end))
	}
}

// P21.1: a heap without room ends a run where a cell, a constant, a symbol or a list has none.
func TestNoRoom(t *testing.T) {
	for _, text := range []string{"\"abc\"", "(LET ((X 1)) X)", "(FUNCTION (LAMBDA ()))", "UNKNOWN", "(CAR 1)", "(LIST 1)", "(FUNCALL (FUNCTION (LAMBDA (&REST X) 1)) 1)", "(LABELS ((F ())) 1)", "(UNWIND-PROTECT (LET ((X 1)) X) (SETQ S 1))"} {
		w := newTester(t, 5000)
		w.symbol("S")
		c := w.tree(text)
		for {
			if _, e := w.Heap().New(heap.KindBox, min(500, max(w.Heap().Limit()-w.Heap().Used()-1, 0))); e != api.OK {
				break
			}
		}
		end, steps := Run(w.World, c, 100)
		if end.Kind != lib.EndLimit || end.Code != api.ErrWords || steps == 0 || len(end.Values) > 0 {
			t.Errorf("%s: %s", text, w.told(end))
		}
		if s, _ := w.Value(w.symbol("S")); s != heap.Unbound {
			t.Errorf("%s: a cleanup was run", text)
		}
	}
}

// P21.1: any numbers of variables will do, also 0 for the second one of a parameter.
func TestNumbers(t *testing.T) {
	for text, want := range map[string]string{"(call (lambda 0 {2 1 0 -} (const 2::5) (callglobal 1:COMMON-LISP:LIST (var 1) (var 0))))": "(5 nil)", "(call (lambda 0 {2 9999 0 -} (const 2::5) (callglobal 1:COMMON-LISP:LIST (var 9999) (var 0))) (const 2::6))": "(6 t)", "(block 9999 (tagbody [9999] (go 9999) (return 9999 (const 2::1))))": "1", "(let [0] (const 2::1) (block 0 (tagbody [0] (go 0) (return 0 (var 0)))))": "1"} {
		w := newTester(t, 20000)
		end, _ := Run(w.World, parse(t, text), 100)
		if got := w.told(end); got != want {
			t.Errorf("%s: %s; want %s", text, got, want)
		}
	}
}

// P21.1: functions of the other road.
func TestCompiled(t *testing.T) {
	type apply = func(heap.Word, []heap.Word, int) (lib.End, int)
	value := lib.End{Values: []heap.Word{fixnum(1), fixnum(2)}}
	fault := lib.End{Kind: lib.EndFault, Fault: lib.Fault{Type: "ODD", Data: []heap.Word{fixnum(3)}}}
	limited := lib.End{Kind: lib.EndLimit, Code: api.ErrWords}
	var got []heap.Word
	var left int
	answer := func(end lib.End, taken int) apply {
		return func(f heap.Word, args []heap.Word, steps int) (lib.End, int) {
			got, left = append([]heap.Word{f}, args...), steps
			return end, taken
		}
	}
	for i, x := range []struct {
		extra any
		want  string
		steps int
	}{
		{nil, "!CONTROL-ERROR %::closure", 6}, {5, "!CONTROL-ERROR %::closure", 6}, {apply(nil), "!CONTROL-ERROR %::closure", 6}, {answer(value, 7), "(1)", 14}, {answer(value, 0), "(1)", 7}, {answer(value, -5), "(1)", 7}, {answer(fault, 2), "[clean] !ODD 3", 9}, {answer(limited, 3), "limit 11", 9}, {answer(value, 99), "limit 10", 100}, {answer(value, 95), "limit 10", 100}, {answer(lib.End{Kind: lib.EndBad, Code: api.ErrForm}, 1), "bad 2", 7}, {answer(lib.End{Kind: lib.EndThrow, Tag: fixnum(9)}, 1), "[clean] !CONTROL-ERROR 9", 8},
	} {
		w := newTester(t, 20000)
		code := w.object(heap.KindCode, heap.Nil)
		w.SetFunction(w.symbol("C"), code)
		w.SetExtra("apply", x.extra)
		text := "(LIST (FUNCALL (FUNCTION C) 5))"
		if strings.HasPrefix(x.want, "[clean]") {
			text = "(UNWIND-PROTECT (C 5) (PRINC (QUOTE \"clean\")))"
		}
		end, steps := Run(w.World, w.tree(text), 100)
		told := w.told(end)
		if w.Output() != "" {
			told = "[" + w.Output() + "] " + told
		}
		if told != x.want || steps != x.steps {
			t.Errorf("the answer %d: %s, %d steps; want %s, %d", i, told, steps, x.want, x.steps)
		}
		if end, _ := Apply(w.World, code, []heap.Word{7}, 100); end.Kind != lib.EndLimit || end.Code != heap.ErrWord {
			t.Errorf("the answer %d to a bad word: %s", i, w.told(end))
		}
		if f, ok := x.extra.(apply); ok && f != nil && (len(got) != 2 || got[0] != code || got[1] != fixnum(5) || left+steps < 90) {
			t.Errorf("the answer %d: called with %v and %d steps", i, got, left)
		}
	}
	w := newTester(t, 20000)
	w.SetFunction(w.symbol("C"), w.object(heap.KindCode, heap.Nil))
	w.SetExtra("apply", answer(fault, 2))
	if got := w.run("(PROGN (%FSET (QUOTE COMMON-LISP::%FAULT) (FUNCTION (LAMBDA (TYPE DATA) (PRINC TYPE)))) (C))"); got != "!ODD 3" {
		t.Errorf("%%FAULT was called for a fault of the other road: %s", got)
	}
	w.SetExtra("apply", apply(func(heap.Word, []heap.Word, int) (lib.End, int) { panic("out") }))
	if end, _ := Run(w.World, w.tree("(C)"), 100); end.Kind != lib.EndBad {
		t.Errorf("what panics: %s", w.told(end))
	}
	if got := w.run("1"); got != "1" {
		t.Errorf("behind it: %s", got)
	}
}
