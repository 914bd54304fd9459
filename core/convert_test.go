package core

import (
	"strings"
	"testing"

	"commonform/api"
	"commonform/forms"
)

// P19.1: trees of forms.
func TestConvert(t *testing.T) {
	for text, want := range map[string]string{
		"5": "(const 5)", "\"a\"": "(const 8::a)", "#\\a": "(const 7::a)", "#(1)": "(const 11::(2::1))", "#*1": "(const 9::1)", "#2A((1))": "(const 12::1~201(2::1))", "1/2": "(const 3::1/2)", "NIL": "(const =NIL)", "T": "(const =T)", ":K": "(const %K)", "X": "(special X)", "(QUOTE X)": "(const X)", "(QUOTE (1 . X))": "(const 10::(2::1 X))", "(QUOTE #:X)": "(const 1::X)",
		"(IF 1 2 3)": "(if (const 1) (const 2) (const 3))", "(IF 1 2)": "(if (const 1) (const 2) (const =NIL))", "(PROGN)": "(progn)", "(PROGN 1)": "(const 1)", "(PROGN 1 2)": "(progn (const 1) (const 2))", "(SETQ)": "(const =NIL)", "(SETQ X 1)": "(setspecial X (const 1))", "(SETQ X 1 Y 2)": "(progn (setspecial X (const 1)) (setspecial Y (const 2)))",
		"(LET ((X 1)) X)": "(let [0] (const 1) (var 0))", "(LET ((X 1) (Y X)) (SETQ X Y))": "(let [0 1] (const 1) (special X) (set 0 (var 1)))", "(LET (X (Y)) Y)": "(let [0 1] (const =NIL) (const =NIL) (var 1))", "(LET () 1 2)": "(progn (const 1) (const 2))", "(LET NIL)": "(progn)", "(LET* ((X 1) (Y X)) Y)": "(let [0] (const 1) (let [1] (var 0) (var 1)))", "(LET* ((X 1) (X X)) X)": "(let [0] (const 1) (let [1] (var 0) (var 1)))", "(LET* () 1)": "(const 1)", "(LET ((X (LET ((Y 1)) Y))) X)": "(let [1] (let [0] (const 1) (var 0)) (var 1))", "(LET ((#:X 1)) #:X)": "(let [0] (const 1) (var 0))",
		"(LET ((X 1)) (DECLARE (SPECIAL X)) X)": "(bind [X] (const 1) (special X))", "(LET ((X 1) (Y 2)) (DECLARE (SPECIAL Y)) (LIST X Y))": "(let [0 1] (const 1) (const 2) (bind [Y] (var 1) (callglobal =LIST (var 0) (special Y))))", "(LET ((X 1)) (LET ((Y X)) (DECLARE (SPECIAL X)) X))": "(let [0] (const 1) (let [1] (var 0) (special X)))", "(LET ((X 1)) (LOCALLY (DECLARE (SPECIAL X)) X))": "(let [0] (const 1) (special X))", "(LET ((X 1)) (DECLARE (FIXNUM X) (FOO) (SPECIAL)) (DECLARE) X)": "(let [0] (const 1) (var 0))",
		"(LET* ((X 1) (Y X)) (DECLARE (SPECIAL X)) (LIST X Y))": "(bind [X] (const 1) (let [0] (special X) (callglobal =LIST (special X) (var 0))))", "(LET ((Z 1)) (LET* ((X Z)) (DECLARE (SPECIAL Z)) Z))": "(let [0] (const 1) (let [1] (var 0) (special Z)))", "(LET ((X 1)) (DECLARE (SPECIAL 5 NIL :K Y)) (SETQ Y X))": "(let [0] (const 1) (setspecial Y (var 0)))", "(LET ((S 1) (X 2)) (DECLARE (SPECIAL S)) (LET ((S 3)) S))": "(let [0 1] (const 1) (const 2) (bind [S] (var 0) (let [2] (const 3) (var 2))))",
		"(FUNCTION F)": "(function F)", "(FUNCTION (LAMBDA (X) X))": "(lambda 0 {1 0 -1 -} (var 0))", "(FUNCTION (LAMBDA ()))": "(lambda 0 (progn))", "((LAMBDA (X) X) 1)": "(call (lambda 0 {1 0 -1 -} (var 0)) (const 1))", "(F 1 X)": "(callglobal F (const 1) (special X))", "(LAMBDA (X))": "(callglobal =LAMBDA (callglobal X))", "(DECLARE)": "(callglobal =DECLARE)",
		"(FUNCTION (LAMBDA (A &OPTIONAL (B A C) &REST D &KEY (E B) ((F G) 1 H)) (LIST A B C D E G H)))": "(lambda 0 {1 0 -1 -} {2 1 2 -} {3 3 -1 -} {4 4 -1 %E} {4 5 6 F} (var 0) (var 1) (const 1) (callglobal =LIST (var 0) (var 1) (var 2) (var 3) (var 4) (var 5) (var 6)))", "(FUNCTION (LAMBDA (&KEY &ALLOW-OTHER-KEYS)))": "(lambda 1 (progn))", "(FUNCTION (LAMBDA (&KEY)))": "(lambda 0 (progn))", "(FUNCTION (LAMBDA (&OPTIONAL (A (LET ((B 1)) B) C)) A))": "(lambda 0 {2 1 2 -} (let [0] (const 1) (var 0)) (var 1))",
		"(FUNCTION (LAMBDA (A &AUX (B A) C) (LIST B C)))": "(lambda 0 {1 0 -1 -} (let [1] (var 0) (let [2] (const =NIL) (callglobal =LIST (var 1) (var 2)))))", "(FUNCTION (LAMBDA (A &AUX (B A)) (DECLARE (SPECIAL B)) B))": "(lambda 0 {1 0 -1 -} (bind [B] (var 0) (special B)))", "(FUNCTION (LAMBDA (A &OPTIONAL (B A)) (DECLARE (SPECIAL A)) (LIST A B)))": "(lambda 0 {1 0 -1 -} {2 1 -1 -} (var 0) (bind [A] (var 0) (callglobal =LIST (special A) (var 1))))", "(FUNCTION (LAMBDA (A &OPTIONAL (B 1 C) &AUX (D A)) (DECLARE (SPECIAL A C)) D))": "(lambda 0 {1 0 -1 -} {2 1 2 -} (const 1) (bind [A C] (var 0) (var 2) (let [3] (special A) (var 3))))", "(LET ((X 1)) (FUNCTION (LAMBDA (Y) (DECLARE (SPECIAL X)) X)))": "(let [0] (const 1) (lambda 0 {1 1 -1 -} (special X)))",
		"(FLET ((F (X) X)) (F 2))": "(let [1] (lambda 0 {1 0 -1 -} (block 0 (var 0))) (call (var 1) (const 2)))", "(FLET ((F () (F))) (FUNCTION F))": "(let [0] (lambda 0 (block 0 (callglobal F))) (var 0))", "(LABELS ((F () (G)) (G () (RETURN-FROM G (F)))) (F))": "(labels [0 1] (lambda 0 (block 0 (call (var 1)))) (lambda 0 (block 1 (return 1 (call (var 0))))) (call (var 0)))", "(FLET () 1)": "(let [] (const 1))", "(LABELS ())": "(labels [] (progn))", "(FLET ((F (X &AUX (Y X)) (DECLARE (SPECIAL Y)) Y)))": "(let [1] (lambda 0 {1 0 -1 -} (bind [Y] (var 0) (block 0 (special Y)))) (progn))", "(LET ((X 1)) (FLET () (DECLARE (SPECIAL X)) X))": "(let [0] (const 1) (let [] (special X)))", "(FLET ((F () 1) (F () 2)) (F))": "(let [0 1] (lambda 0 (block 0 (const 1))) (lambda 0 (block 1 (const 2))) (call (var 0)))",
		"(LET ((F 1)) (F F))": "(let [0] (const 1) (callglobal F (var 0)))", "(FLET ((F () 1)) F)": "(let [0] (lambda 0 (block 0 (const 1))) (special F))", "(FLET ((#:F () 1)) (#:F))": "(let [0] (lambda 0 (block 0 (const 1))) (call (var 0)))", "(FLET ((IF () 1)) (FUNCTION IF))": "(let [0] (lambda 0 (block 0 (const 1))) (var 0))", "(FLET ((IF () 1)) (IF 1 2))": "(let [0] (lambda 0 (block 0 (const 1))) (if (const 1) (const 2) (const =NIL)))",
		"(BLOCK A)": "(block 0 (progn))", "(BLOCK NIL (RETURN-FROM NIL 1))": "(block 0 (return 0 (const 1)))", "(BLOCK A (BLOCK A (RETURN-FROM A)))": "(block 0 (block 1 (return 1 (const =NIL))))", "(BLOCK A (FUNCTION (LAMBDA () (RETURN-FROM A 1))))": "(block 0 (lambda 0 (return 0 (const 1))))",
		"(TAGBODY)": "(tagbody [] (progn))", "(TAGBODY A (GO A))": "(tagbody [0] (progn) (go 0))", "(TAGBODY (F) A 1.5 (G) (H) 5 (GO 5) NIL (GO NIL) \"s\")": "(tagbody [0 1 2] (callglobal F) (progn (const 4::3fc00000) (callglobal G) (callglobal H)) (go 1) (progn (go 2) (const 8::s)))", "(TAGBODY A (TAGBODY A (GO A)) (GO A))": "(tagbody [0] (progn) (progn (tagbody [1] (progn) (go 1)) (go 0)))", "(TAGBODY 5 (TAGBODY |5| (GO 5)))": "(tagbody [0] (progn) (tagbody [1] (progn) (go 0)))",
		"(CATCH 1 2 3)": "(catch (const 1) (progn (const 2) (const 3)))", "(CATCH 1)": "(catch (const 1) (progn))", "(THROW 1 2)": "(throw (const 1) (const 2))", "(UNWIND-PROTECT 1 2 3)": "(protect (const 1) (progn (const 2) (const 3)))", "(UNWIND-PROTECT 1)": "(protect (const 1) (progn))", "(MULTIPLE-VALUE-CALL F 1 2)": "(valuescall (special F) (const 1) (const 2))", "(MULTIPLE-VALUE-PROG1 1)": "(valuesfirst (const 1))", "(PROGV 1 2 3 4)": "(progv (const 1) (const 2) (progn (const 3) (const 4)))", "(THE FIXNUM 1)": "(const 1)", "(THE 5 (IF 1 2))": "(if (const 1) (const 2) (const =NIL))", "(LOAD-TIME-VALUE 1)": "(const 1)", "(LOAD-TIME-VALUE 1 T)": "(const 1)", "(LOCALLY 1 2)": "(progn (const 1) (const 2))", "(LOCALLY)": "(progn)",
	} {
		c, e := Convert(read(t, text), nil)
		s, _ := Show(c)
		if e != api.OK || s != long(want) {
			t.Errorf("Convert(%s) = %s, %v; want %s", text, short(s), e, want)
		}
	}
}

// P19.1: symbols that are special everywhere.
func TestSpecials(t *testing.T) {
	specials := []api.Form{read(t, "X"), number(5), read(t, "#:Y")}
	for text, want := range map[string]string{
		"(LET ((X 1)) X)": "(bind [X] (const 1) (special X))", "(LET ((X 1) (Y X)) (SETQ X Y))": "(let [0 1] (const 1) (special X) (bind [X] (var 0) (setspecial X (var 1))))", "(FUNCTION (LAMBDA (X &OPTIONAL (Y X)) X))": "(lambda 0 {1 0 -1 -} {2 1 -1 -} (var 0) (bind [X] (var 0) (special X)))", "(FUNCTION (LAMBDA (Y &KEY (Z 1 X)) X))": "(lambda 0 {1 0 -1 -} {4 1 2 %Z} (const 1) (bind [X] (var 2) (special X)))", "(FUNCTION (LAMBDA (X &OPTIONAL (Y (LET ((X 2)) X))) Y))": "(lambda 0 {1 0 -1 -} {2 1 -1 -} (bind [X] (const 2) (special X)) (bind [X] (var 0) (var 1)))", "(FLET ((X () X)) (X))": "(let [0] (lambda 0 (block 0 (special X))) (call (var 0)))", "(LET* ((X 1) (X X)) X)": "(bind [X] (const 1) (bind [X] (special X) (special X)))",
	} {
		c, e := Convert(read(t, text), specials)
		s, _ := Show(c)
		if e != api.OK || s != long(want) {
			t.Errorf("Convert(%s) = %s, %v; want %s", text, short(s), e, want)
		}
	}
	for _, text := range []string{"#:Y", "(LET ((#:Y 1)) 1)", "(SETQ #:Y 1)", "(FUNCTION (LAMBDA (#:Y)))", "(FUNCTION (LAMBDA (&AUX #:Y)))"} {
		if _, e := Convert(read(t, text), specials); e != api.ErrForm {
			t.Errorf("Convert(%s) = %v; want ErrForm", text, e)
		}
	}
}

// P19.1: forms that are none of those described.
func TestConvertErrors(t *testing.T) {
	for e, texts := range map[api.Errno]string{
		api.ErrForm: "#:X|#1=(F)|(F #1=1)|(F . X)|(1)|(\"F\")|((F) 1)|((LAMBDA))|((LAMBDA . X))|((LAMBDA X) 1)|(NIL)|(T 1)|(:K)|(#:F)|(QUOTE)|(QUOTE 1 2)|(QUOTE . 1)|(IF 1)|(IF 1 2 3 4)|(IF)|(SETQ X)|(SETQ X 1 Y)|(SETQ 1 2)|(SETQ NIL 1)|(SETQ T 1)|(SETQ :K 1)|(SETQ &REST 1)|(SETQ &OPTIONAL 1)|(LET (&KEY))|(SETQ (X) 1)|(SETQ #:X 1)" +
			"|(LET)|(LET X)|(LET (X . Y))|(LET (1))|(LET (NIL))|(LET ((NIL 1)))|(LET ((T 1)))|(LET (:K))|(LET ((&REST 1)))|(LET ((X 1 2)))|(LET ((X . 1)))|(LET (()))|(LET (((X) 1)))|(LET* (X . Y))|(LET*)|(LET* ((X 1 2)))|(LET ((#:X 1)) (DECLARE (SPECIAL #:X)))|(LOCALLY (DECLARE (SPECIAL #:X)) #:X)" +
			"|(FUNCTION)|(FUNCTION F G)|(FUNCTION 1)|(FUNCTION NIL)|(FUNCTION T)|(FUNCTION :K)|(FUNCTION #:F)|(FUNCTION (F))|(FUNCTION (LAMBDA))|(FUNCTION (LAMBDA X))|(FUNCTION (LAMBDA (X . Y)))|(FUNCTION (LAMBDA (&WHOLE X)))|(FUNCTION (LAMBDA ((X))))|(FUNCTION (LAMBDA (X) . Y))|(FUNCTION (LAMBDA (#:X) (DECLARE (SPECIAL #:X))))" +
			"|(FLET)|(FLET F)|(FLET (F))|(FLET ((F)))|(FLET ((F . X)))|(FLET ((F X)))|(FLET ((1 ())))|(FLET ((NIL ())))|(FLET ((T ())))|(FLET ((:K ())))|(FLET (((F) ())))|(FLET ((F ()) . G))|(LABELS)|(LABELS ((F)))|(LABELS ((:K ())))" +
			"|(BLOCK)|(BLOCK 1)|(BLOCK (A))|(RETURN-FROM)|(RETURN-FROM 1)|(BLOCK A (RETURN-FROM A 1 2))|(GO)|(GO A B)|(GO (A))|(GO \"A\")|(GO 1.5)|(CATCH)|(THROW 1)|(THROW 1 2 3)|(UNWIND-PROTECT)|(MULTIPLE-VALUE-CALL)|(MULTIPLE-VALUE-PROG1)|(PROGV 1)|(THE X)|(THE X 1 2)|(LOAD-TIME-VALUE)|(LOAD-TIME-VALUE 1 2 3)|(PROGN . 1)|(TAGBODY . A)|(IF 1 2 . 3)",
		ErrScope:     "(RETURN-FROM A)|(BLOCK A (RETURN-FROM B))|(PROGN (BLOCK A) (RETURN-FROM A))|(RETURN-FROM NIL 1)|(GO A)|(TAGBODY A (GO B))|(PROGN (TAGBODY A) (GO A))|(BLOCK A (GO A))|(TAGBODY A (RETURN-FROM A))|(TAGBODY 5 (GO \\5))|(TAGBODY A (GO #:A))|(FLET ((F ())) (RETURN-FROM F))|(FLET ((F (&OPTIONAL (X (RETURN-FROM F))))))|(FLET ((F (&AUX (X (RETURN-FROM F))))))",
		ErrDeclare:   "(LET () (DECLARE . X))|(LET () (DECLARE X))|(LET () (DECLARE 1))|(LET () (DECLARE ()))|(LET () (DECLARE (1)))|(LET () (DECLARE ((X))))|(LET () (DECLARE (SPECIAL . X)))|(LET () (DECLARE (FOO X . Y)))|(LET* () (DECLARE X))|(LOCALLY (DECLARE X))|(LOCALLY (DECLARE) (DECLARE (FOO)) (DECLARE (1)) 1)|(FUNCTION (LAMBDA () (DECLARE X)))|((LAMBDA () (DECLARE X)))|(FLET ((F () (DECLARE X))))|(FLET () (DECLARE X))|(LABELS ((F () (DECLARE X))))|(LABELS () (DECLARE X))",
		api.ErrTwice: "(LET (X X) 1)|(LET ((X 1) Y (X 2)))|(LET (#:X #:X))|(TAGBODY A A)|(TAGBODY 1 A 1)|(TAGBODY NIL NIL)|(FUNCTION (LAMBDA (X X)))|(FUNCTION (LAMBDA (&KEY X ((:X Y)))))|((LAMBDA (X &AUX X)))|(FLET ((F (X &REST X))))",
	} {
		for _, text := range strings.Split(texts, "|") {
			if c, got := Convert(read(t, text), nil); got != e || c.Op != 0 || len(c.Kids) > 0 {
				t.Errorf("Convert(%s) = %v; want %v", text, got, e)
			}
		}
	}
	if _, e := Convert(api.Form{Kind: api.FormRef, Text: "1"}, nil); e != forms.ErrLabel {
		t.Errorf("Convert of no right form: %v", e)
	}
}

// P19.1: of several errors the first one: of a form first its shape, and then its parts, in order.
func TestOrderOfErrors(t *testing.T) {
	for text, want := range map[string]api.Errno{
		"(IF (GO A) (LET (X X)))": ErrScope, "(IF (LET (X X)) (GO A))": api.ErrTwice, "(IF (GO A))": api.ErrForm, "(PROGN (GO A) . X)": api.ErrForm, "(LET ((X (GO A)) (X 1)))": api.ErrTwice, "(LET ((X (GO A))) (DECLARE X))": ErrDeclare, "(LET (X X) (DECLARE X))": api.ErrTwice, "(LET (X X 1))": api.ErrTwice, "(LET (1 X X))": api.ErrForm, "(LET ((X (GO A))) (IF))": ErrScope,
		"(SETQ X (GO A) 5 1)": api.ErrForm, "(SETQ X (GO A) Y)": api.ErrForm, "(FLET ((F () (GO A)) (G (X X))) 1)": api.ErrTwice, "(FLET ((F () (GO A))) (DECLARE X))": ErrDeclare, "(FLET ((F (X X)) (G)) 1)": api.ErrTwice, "(FLET ((F () (DECLARE X)) (G (X X))))": ErrDeclare, "(RETURN-FROM A (IF))": ErrScope, "(RETURN-FROM A 1 2)": api.ErrForm, "(BLOCK A (RETURN-FROM A (IF)))": api.ErrForm, "(TAGBODY (IF) A A)": api.ErrTwice,
		"((LAMBDA (X X)) (IF))": api.ErrTwice, "((LAMBDA (X) (GO A)) (IF))": ErrScope, "((LAMBDA (X X)) . 1)": api.ErrForm, "(#:F (GO A))": api.ErrForm, "(F (GO A) #:X)": ErrScope, "(FUNCTION (LAMBDA (&OPTIONAL (X (GO A))) (DECLARE X)))": ErrDeclare, "(FUNCTION (LAMBDA (&OPTIONAL (X (GO A)) X)))": api.ErrTwice, "(LET ((#:X (GO A))) (DECLARE (SPECIAL #:X)))": api.ErrForm, "(LET* ((X (GO A)) (Y 1 2)))": api.ErrForm, "(PROGV (GO A) (IF))": ErrScope,
	} {
		if _, e := Convert(read(t, text), nil); e != want {
			t.Errorf("Convert(%s) = %v; want %v", text, e, want)
		}
	}
}

// P19.1: trees that are too large or too deep, behind all other errors.
func TestConvertSize(t *testing.T) {
	deep := func(n int, inside string) string {
		return "(LET* (" + strings.Repeat(" X", n) + ") " + inside + ")"
	}
	for text, want := range map[string]api.Errno{
		deep(99, "1"): api.OK, deep(100, "1"): api.ErrSize, deep(100, "(GO A)"): ErrScope, deep(100, "(IF)"): api.ErrForm,
	} {
		if c, e := Convert(read(t, text), nil); e != want || e != api.OK && len(c.Kids) > 0 {
			t.Errorf("Convert(%.40s) = %v; want %v", text, e, want)
		}
	}
	var names []api.Form // a LET of special variables and a lexical one has more nodes than its form
	for i := range 600 {
		names = append(names, global("V"+number(i).Text))
	}
	specials := names[1:]
	if c, e := Convert(call("LET", list(names...)), specials); e != api.OK || Size(c) != 1202 {
		t.Errorf("a tree of 1202 nodes: %v, %d", e, Size(c))
	}
	body := make([]api.Form, 900)
	for i := range body {
		body[i] = number(1)
	}
	if _, e := Convert(call("LET", append([]api.Form{list(names...)}, body...)...), specials); e != api.ErrSize {
		t.Errorf("a tree of 2102 nodes: %v", e)
	}
}
