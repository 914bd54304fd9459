package lib

import (
	"slices"
	"strings"
	"testing"

	"commonform/api"
	"commonform/heap"
)

// P20.1: conses.
func TestConses(t *testing.T) {
	check(t, map[string]string{
		"(CONS 1 2)": "(1 . 2)", "(CONS 1)": "!PROGRAM-ERROR cons", "(CONS 1 2 3)": "!PROGRAM-ERROR cons", "(CAR (1 . 2))": "1", "(CAR NIL)": "nil", "(CAR 1)": "!TYPE-ERROR 1 list", "(CAR #(1))": "!TYPE-ERROR #(1) list", "(CAR)": "!PROGRAM-ERROR car", "(CAR (1) (2))": "!PROGRAM-ERROR car", "(CDR (1 . 2))": "2", "(CDR NIL)": "nil", "(CDR X)": "!TYPE-ERROR x list",
		"(RPLACA (1 . 2) 3)": "(3 . 2)", "(RPLACD (1 . 2) 3)": "(1 . 3)", "(RPLACA NIL 3)": "!TYPE-ERROR nil cons", "(RPLACD 5 3)": "!TYPE-ERROR 5 cons", "(LIST)": "nil", "(LIST 1 2)": "(1 2)", "(LIST* 1)": "1", "(LIST* 1 2)": "(1 . 2)", "(LIST* 1 2 (3))": "(1 2 3)", "(LIST*)": "!PROGRAM-ERROR list*",
		"(CONSP (1))": "t", "(CONSP NIL)": "nil", "(ATOM NIL)": "t", "(ATOM (1))": "nil", "(ATOM \"a\")": "t", "(LISTP NIL)": "t", "(LISTP (1))": "t", "(LISTP 5)": "nil", "(NULL NIL)": "t", "(NULL 0)": "nil", "(NOT NIL)": "t", "(NOT T)": "nil",
		"(APPEND)": "nil", "(APPEND 5)": "5", "(APPEND (1) (2 3) 4)": "(1 2 3 . 4)", "(APPEND NIL NIL)": "nil", "(APPEND (1) NIL)": "(1)", "(APPEND 5 (1))": "!TYPE-ERROR 5 list", "(APPEND (1) (2 . 3) 4 5)": "!TYPE-ERROR (2 . 3) list", "(APPEND NIL (1 . 2))": "(1 . 2)",
		"(REVERSE (1 2 3))": "(3 2 1)", "(REVERSE NIL)": "nil", "(REVERSE (1 . 2))": "!TYPE-ERROR (1 . 2) list", "(REVERSE #(1))": "!TYPE-ERROR #(1) list",
		"(NTH 0 (1 2))": "1", "(NTH 1 (1 2))": "2", "(NTH 2 (1 2))": "nil", "(NTH 9 NIL)": "nil", "(NTH 1 (1 . 2))": "!TYPE-ERROR 2 list", "(NTH 2 (1 . 2))": "!TYPE-ERROR 2 list", "(NTH -1 (1))": "!TYPE-ERROR -1 unsigned-byte", "(NTH 1.0 (1))": "!TYPE-ERROR 1.0 unsigned-byte", "(NTH 1 5)": "!TYPE-ERROR 5 list", "(NTH X 5)": "!TYPE-ERROR x unsigned-byte", "(NTH 99999999999999999999 (1))": "nil", "(NTHCDR 0 (1 . 2))": "(1 . 2)", "(NTHCDR 1 (1 . 2))": "2", "(NTHCDR 2 (1 . 2))": "!TYPE-ERROR 2 list", "(NTHCDR 3 (1 2))": "nil",
		"(LAST (1 2))": "(2)", "(LAST (1 2 . 3))": "(2 . 3)", "(LAST NIL)": "nil", "(LAST 5)": "!TYPE-ERROR 5 list", "(LAST #1=(1 2 . #1#))": "!TYPE-ERROR #0=(1 2 . #0#) list",
		"(LENGTH NIL)": "0", "(LENGTH (1 2))": "2", "(LENGTH \"héé\")": "3", "(LENGTH #*101)": "3", "(LENGTH #(1 2))": "2", "(LENGTH (1 . 2))": "!TYPE-ERROR (1 . 2) sequence", "(LENGTH #1=(1 . #1#))": "!TYPE-ERROR #0=(1 . #0#) sequence", "(LENGTH #2A((1)))": "!TYPE-ERROR #2A((1)) sequence", "(LENGTH X)": "!TYPE-ERROR x sequence",
		"(MEMBER 2 (1 2 3))": "(2 3)", "(MEMBER 2.0 (1 2 3))": "nil", "(MEMBER 2.0 (1 2.0 3))": "(2.0 3)", "(MEMBER \"a\" (\"a\"))": "nil", "(MEMBER NIL (1 NIL))": "(nil)", "(MEMBER 1 (1 . 2))": "!TYPE-ERROR (1 . 2) list", "(MEMBER 1 NIL)": "nil",
		"(ASSOC 2 ((1 . A) NIL (2 . B) (2 . C)))": "(2 . b)", "(ASSOC 3 ((1 . A)))": "nil", "(ASSOC 3 ((1 . A) 5))": "!TYPE-ERROR 5 list", "(ASSOC 1 ((1 . A) 5))": "(1 . a)", "(ASSOC NIL (NIL (NIL . 1)))": "(nil . 1)", "(ASSOC 1/2 ((1/2 . A)))": "(1/2 . a)", "(ASSOC 1 5)": "!TYPE-ERROR 5 list", "(COPY-LIST (1 2))": "(1 2)", "(COPY-LIST NIL)": "nil", "(COPY-LIST (1 . 2))": "!TYPE-ERROR (1 . 2) list",
	})
}

// P20.1: sameness and kinds.
func TestKinds(t *testing.T) {
	check(t, map[string]string{
		"(EQ A A)": "t", "(EQ 5 5)": "t", "(EQ \"a\" \"a\")": "nil", "(EQ (#1=\"a\") (#1#))": "nil", "(EQ 1.0 1.0)": "nil", "(EQL 1.0 1.0)": "t", "(EQL 1 1.0)": "nil", "(EQL \"a\" \"a\")": "nil", "(EQUAL (1 \"a\") (1 \"a\"))": "t", "(EQUAL \"a\" \"A\")": "nil", "(EQUALP \"a\" \"A\")": "t", "(EQUALP 1 1.0)": "t", "(EQUAL 1 1.0)": "nil", "(EQUAL #1=(1 . #1#) #2=(1 . #2#))": "t", "(EQ 1)": "!PROGRAM-ERROR eq",
	})
	kinds := map[string]string{
		"NIL": "SYMBOLP", "X": "SYMBOLP", "#:X": "SYMBOLP", ":X": "SYMBOLP KEYWORDP", "5": "NUMBERP INTEGERP RATIONALP REALP", "99999999999999999999": "NUMBERP INTEGERP RATIONALP REALP", "1/2": "NUMBERP RATIONALP REALP", "1.5": "NUMBERP REALP FLOATP", "1d0": "NUMBERP REALP FLOATP", "#C(1 2)": "NUMBERP COMPLEXP", "#\\a": "CHARACTERP", "\"a\"": "STRINGP VECTORP ARRAYP", "#*1": "BIT-VECTOR-P VECTORP ARRAYP", "#(1)": "VECTORP ARRAYP", "#2A((1))": "ARRAYP", "#0A1": "ARRAYP", "(1)": "",
	}
	w := newTester(t, 20000)
	for text, want := range kinds {
		w.isJust(text, want, w.build(text))
	}
	function, _ := w.Function(w.symbol("CAR"))
	w.isJust("a function", "FUNCTIONP", function)
	w.isJust("a closure", "FUNCTIONP", w.object(15, 0, 3))
	w.isJust("a compiled function", "FUNCTIONP", w.object(16, 0, 3))
	w.isJust("a hash table", "HASH-TABLE-P", w.call("MAKE-HASH-TABLE", w.symbol("EQ")).Values[0])
	w.isJust("what has no value", "", 2)
	one, two := w.vector([]heap.Word{fixnum(1)}), w.vector([]heap.Word{fixnum(2)})
	w.isJust("an array of one element", "ARRAYP", w.object(heap.KindArray, one, two))
	w.isJust("an array without elements", "", w.object(heap.KindArray, one))
	w.isJust("an array with another number of elements", "", w.object(heap.KindArray, two, two))
	w.isJust("an array with a wrong dimension", "", w.object(heap.KindArray, w.vector([]heap.Word{heap.Nil}), two))
	w.isJust("an array with a negative dimension", "", w.object(heap.KindArray, w.vector([]heap.Word{fixnum(-1)}), two))
	w.isJust("an array of a number", "", w.object(heap.KindArray, fixnum(1), two))
	w.isJust("a string with fields", "", w.object(heap.KindString))
	w.isJust("a vector with bytes", "", w.raw(heap.KindVector))
	w.isJust("bits with fields", "", w.object(heap.KindBits, heap.Nil))
}

// P20.1: numbers.
func TestNumbers(t *testing.T) {
	check(t, map[string]string{
		"(+)": "0", "(+ 1)": "1", "(+ 1 2.5)": "3.5", "(+ 1/2 1/2)": "1", "(+ -0.0)": "0.0", "(+ 1152921504606846975 1)": "1152921504606846976", "(+ 1152921504606846976 -1)": "1152921504606846975", "(+ 1 X)": "!TYPE-ERROR x number", "(+ \"a\" X)": "!TYPE-ERROR \"a\" number", "(+ #C(1 2) #C(1 -2))": "2", "(*)": "1", "(* 2 3 4)": "24", "(* 2 #C(1 1))": "#C(2 2)", "(+ 3e38 3e38)": "!ARITHMETIC-ERROR",
		"(-)": "!PROGRAM-ERROR -", "(- 5)": "-5", "(- 5 1 1)": "3", "(- 0.0)": "-0.0", "(/ 2)": "1/2", "(/ 6 2 2)": "3/2", "(/ 0)": "!DIVISION-BY-ZERO", "(/ 1 0)": "!DIVISION-BY-ZERO", "(/ 1 0.0)": "!DIVISION-BY-ZERO", "(/ 1.0 2)": "0.5", "(/)": "!PROGRAM-ERROR /", "(/ 1 0 X)": "!TYPE-ERROR x number",
		"(= 1)": "t", "(= 1 1.0 1d0)": "t", "(= 1 1 2)": "nil", "(= 1 2 1)": "nil", "(= #C(1 2) #C(1.0 2.0))": "t", "(= 1 X)": "!TYPE-ERROR x number", "(=)": "!PROGRAM-ERROR =", "(/= 1)": "t", "(/= 1 2 3)": "t", "(/= 1 2 1.0)": "nil", "(/= 0.0 -0.0)": "nil", "(/= 1 #C(1 1))": "t", "(/= 1/3 0.33333334)": "t", "(/=)": "!PROGRAM-ERROR /=",
		"(< 1 2 3)": "t", "(< 1 2 2)": "nil", "(< 1)": "t", "(<= 1 1 2)": "t", "(<= 2 1)": "nil", "(> 3 2 1)": "t", "(> 2 2)": "nil", "(>= 2 2 1)": "t", "(>= 1 2)": "nil", "(< 1/3 0.33333334)": "t", "(< #C(1 2) 1)": "!TYPE-ERROR #C(1 2) real", "(< 1 X)": "!TYPE-ERROR x real", "(MAX 1 3 2)": "3", "(MAX 1 1.0)": "1", "(MAX 1.0 1)": "1.0", "(MIN 3 1 1.0 2)": "1", "(MIN #C(1 2))": "!TYPE-ERROR #C(1 2) real", "(MAX)": "!PROGRAM-ERROR max",
		"(ABS -5)": "5", "(ABS -0.0)": "0.0", "(ABS #C(3 4))": "!TYPE-ERROR #C(3 4) real", "(FLOOR -7 2)": "-4 1", "(FLOOR 7)": "7 0", "(FLOOR 2.5)": "2 0.5", "(CEILING 7 2)": "4 -1", "(TRUNCATE -7 2)": "-3 -1", "(ROUND 5 2)": "2 1", "(ROUND 7/2)": "4 -1/2", "(FLOOR 1 0)": "!DIVISION-BY-ZERO", "(FLOOR 1 X)": "!TYPE-ERROR x real", "(FLOOR 1 2 3)": "!PROGRAM-ERROR floor", "(MOD -7 2)": "1", "(MOD 7 -2)": "-1", "(REM -7 2)": "-1", "(MOD 1 0)": "!DIVISION-BY-ZERO", "(MOD 1)": "!PROGRAM-ERROR mod",
		"(GCD)": "0", "(GCD 12 -18)": "6", "(LCM)": "1", "(LCM 4 6)": "12", "(LCM 0 5)": "0", "(GCD 1.0)": "!TYPE-ERROR 1.0 integer", "(LOGAND)": "-1", "(LOGAND 12 10)": "8", "(LOGIOR)": "0", "(LOGIOR 12 10)": "14", "(LOGXOR)": "0", "(LOGXOR 12 10)": "6", "(LOGAND 1/2)": "!TYPE-ERROR 1/2 integer", "(LOGNOT 5)": "-6", "(LOGNOT -1)": "0",
		"(ASH 1 10)": "1024", "(ASH -5 -1)": "-3", "(ASH 5 -65537)": "0", "(ASH -5 -99999999999999999999)": "-1", "(ASH 1 65537)": "!ARITHMETIC-ERROR", "(ASH 0 65537)": "0", "(ASH 0 99999999999999999999)": "0", "(ASH 1 99999999999999999999)": "!ARITHMETIC-ERROR", "(ASH 1 65536)": "!ARITHMETIC-ERROR", "(ASH -1 65537)": "!ARITHMETIC-ERROR", "(ASH -1 99999999999999999999)": "!ARITHMETIC-ERROR", "(ASH 1.0 1)": "!TYPE-ERROR 1.0 integer",
		"(EXPT 2 10)": "1024", "(EXPT 2 -2)": "1/4", "(EXPT 0 -1)": "!DIVISION-BY-ZERO", "(EXPT 1 4097)": "!ARITHMETIC-ERROR", "(EXPT 1 4096)": "1", "(EXPT 1 -4097)": "!ARITHMETIC-ERROR", "(EXPT 99999999999999999999 4096)": "!ARITHMETIC-ERROR", "(EXPT 1 -99999999999999999999)": "!ARITHMETIC-ERROR", "(EXPT #C(0 1) 2)": "-1", "(EXPT 2 1.0)": "!TYPE-ERROR 1.0 integer", "(EXPT 1e30 2)": "!ARITHMETIC-ERROR",
		"(NUMERATOR 6/4)": "3", "(DENOMINATOR 6/4)": "2", "(NUMERATOR 1.0)": "!TYPE-ERROR 1.0 rational", "(COMPLEX 1 2)": "#C(1 2)", "(COMPLEX 1)": "1", "(COMPLEX 1.0)": "#C(1.0 0.0)", "(COMPLEX 1 2.0)": "#C(1.0 2.0)", "(COMPLEX #C(1 2))": "!TYPE-ERROR #C(1 2) real", "(REALPART #C(1 2))": "1", "(IMAGPART #C(1 2))": "2", "(IMAGPART 1.5)": "0.0", "(REALPART X)": "!TYPE-ERROR x number", "(RATIONAL 0.5)": "1/2", "(RATIONALIZE 0.33333334)": "1/3", "(RATIONAL #C(1 2))": "!TYPE-ERROR #C(1 2) real",
		"(FLOAT 1)": "1.0", "(FLOAT 1 2d0)": "1.0d0", "(FLOAT 1.5)": "1.5", "(FLOAT 1.5d0)": "1.5d0", "(FLOAT 1.5 1)": "1.5", "(FLOAT 1.5d0 1.0)": "1.5", "(FLOAT 1/2 5)": "0.5", "(FLOAT #C(1 2))": "!TYPE-ERROR #C(1 2) real", "(FLOAT 1d300 1.0)": "!ARITHMETIC-ERROR", "(FLOAT 1 X)": "!TYPE-ERROR x real",
	})
}

// P20.1: what a number that is none is of.
func TestTypeOfNoNumber(t *testing.T) {
	w := newTester(t, 20000)
	twos := strings.Repeat("2", 20)
	x, e := w.Build(api.Form{Kind: api.FormCons, Kids: []api.Form{{Kind: api.FormRatio, Text: twos + "/" + strings.Repeat("4", 20)}, {Kind: api.FormInt, Text: "1"}}})
	ratio := w.car(x)
	for _, c := range []struct {
		x    heap.Word
		t    string
		want string
	}{{x, "CONS", "t"}, {x, "SYMBOL", "nil"}, {ratio, "CONS", "nil"}, {ratio, "T", "t"}, {ratio, "REAL", "nil"}} {
		if got := w.told(w.call("TYPEP", c.x, w.symbol(c.t))); e != api.OK || got != c.want {
			t.Errorf("TYPEP for %s: %s, %v", c.t, got, e)
		}
	}
}

// P20.1: numbers that are none.
func TestNoNumbers(t *testing.T) {
	w := newTester(t, 20000)
	raw := func(kind int, bytes string) heap.Word { x, _ := w.Heap().Raw(kind, bytes); return x }
	for i, x := range []heap.Word{w.object(heap.KindInt, fixnum(1)), raw(heap.KindInt, "x"), raw(heap.KindRatio, "2/4"), raw(heap.KindSingle, "1"), raw(heap.KindInt, strings.Repeat("1", 20001))} {
		for _, name := range []string{"+", "*", "-", "ABS", "FLOOR"} {
			if a := w.call(name, x); a.Kind != AnswerFault || a.Fault.Type != arithmetic || len(a.Fault.Data) > 0 {
				t.Errorf("%s of the object %d: %v", name, i, a.Kind)
			}
		}
		for _, name := range []string{"=", "<", "/=", "MAX", "EXPT"} {
			if a := w.call(name, x, fixnum(2)); a.Kind != AnswerFault || a.Fault.Type != arithmetic && name != "EXPT" {
				t.Errorf("%s of the object %d: %v", name, i, a.Kind)
			}
		}
	}
}

// P20.1: symbols.
func TestSymbolCalls(t *testing.T) {
	check(t, map[string]string{
		"(SYMBOL-NAME CAR)": "\"CAR\"", "(SYMBOL-NAME NIL)": "\"NIL\"", "(SYMBOL-NAME \"A\")": "!TYPE-ERROR \"A\" symbol", "(SYMBOL-PACKAGE CAR)": "\"COMMON-LISP\"", "(SYMBOL-PACKAGE X)": "\"COMMON-LISP-USER\"", "(SYMBOL-PACKAGE :X)": "\"KEYWORD\"", "(SYMBOL-PACKAGE #:X)": "nil",
		"(SYMBOL-VALUE NIL)": "nil", "(SYMBOL-VALUE T)": "t", "(SYMBOL-VALUE :X)": ":x", "(SYMBOL-VALUE X)": "!UNBOUND-VARIABLE x", "(SET X 5)": "5", "(SET NIL 5)": "!PROGRAM-ERROR nil", "(SET T 5)": "!PROGRAM-ERROR t", "(SET :X :X)": "!PROGRAM-ERROR :x", "(SET 5 5)": "!TYPE-ERROR 5 symbol", "(BOUNDP X)": "nil", "(BOUNDP NIL)": "t", "(MAKUNBOUND X)": "x", "(MAKUNBOUND T)": "!PROGRAM-ERROR t",
		"(SYMBOL-FUNCTION CAR)": "%::builtin", "(SYMBOL-FUNCTION X)": "!UNDEFINED-FUNCTION x", "(SYMBOL-FUNCTION NIL)": "!UNDEFINED-FUNCTION nil", "(%FSET X CAR)": "%::builtin", "(%FSET X Y)": "!UNDEFINED-FUNCTION y", "(%FSET X 5)": "!TYPE-ERROR 5 function", "(%FSET 5 CAR)": "!TYPE-ERROR 5 symbol", "(%FSET T CAR)": "%::builtin", "(FBOUNDP CAR)": "t", "(FBOUNDP X)": "nil", "(FMAKUNBOUND CAR)": "car", "(FMAKUNBOUND T)": "t", "(SYMBOL-PLIST X)": "nil", "(%SET-PLIST X (A 1))": "(a 1)", "(%SET-PLIST NIL 5)": "5", "(SYMBOL-PLIST 5)": "!TYPE-ERROR 5 symbol",
		"(INTERN \"NEW\")": "new nil", "(INTERN \"CAR\")": "car :inherited", "(INTERN \"CAR\" \"CL\")": "car :external", "(INTERN \"K\" \"KEYWORD\")": ":k nil", "(INTERN \"A\" \"NOWHERE\")": "!PACKAGE-ERROR \"NOWHERE\"", "(INTERN X)": "!TYPE-ERROR x string", "(INTERN \"A\" X)": "!TYPE-ERROR x string", "(INTERN \"0123456789012345678901234567890123456789012345678901234567890\")": "!PACKAGE-ERROR \"COMMON-LISP-USER\"", "(INTERN \"0123456789012345678901234567890123456789012345678901234567890\" \"CL\")": "!PACKAGE-ERROR \"CL\"",
		"(FIND-SYMBOL \"NEW\")": "nil nil", "(FIND-SYMBOL \"CAR\")": "car :inherited", "(FIND-SYMBOL \"NIL\" \"COMMON-LISP\")": "nil :external", "(FIND-SYMBOL \"A\" \"NOWHERE\")": "!PACKAGE-ERROR \"NOWHERE\"", "(FIND-SYMBOL \"SEQUENCE\")": "sequence :inherited", "(MAKE-SYMBOL \"A\")": "#:a", "(SYMBOL-NAME #:A)": "\"A\"", "(MAKE-SYMBOL \"0123456789012345678901234567890123456789012345678901234567890\")": "!PACKAGE-ERROR \"0123456789012345678901234567890123456789012345678901234567890\"", "(MAKE-SYMBOL X)": "!TYPE-ERROR x string",
		"(GENSYM)": "#:g0", "(GENSYM \"V\")": "#:v0", "(GENSYM \"\")": "#:|0|", "(GENSYM \"012345678901234567890123456789012345678901234567890123456789\")": "!PACKAGE-ERROR \"012345678901234567890123456789012345678901234567890123456789\"", "(GENSYM X)": "!TYPE-ERROR x string", "(GENSYM \"A\" \"B\")": "!PROGRAM-ERROR gensym",
	})
}

// P20.1: characters and strings.
func TestTexts(t *testing.T) {
	check(t, map[string]string{
		"(CHAR-CODE #\\a)": "97", "(CHAR-CODE 5)": "!TYPE-ERROR 5 character", "(CODE-CHAR 97)": "#\\a", "(CODE-CHAR 55296)": "nil", "(CODE-CHAR 1114111)": "#\\\U0010ffff", "(CODE-CHAR 1114112)": "nil", "(CODE-CHAR 99999999999999999999)": "nil", "(CODE-CHAR -1)": "!TYPE-ERROR -1 unsigned-byte", "(CHAR-UPCASE #\\a)": "#\\A", "(CHAR-UPCASE #\\z)": "#\\Z", "(CHAR-UPCASE #\\A)": "#\\A", "(CHAR-UPCASE #\\{)": "#\\{", "(CHAR-UPCASE #\\é)": "#\\é", "(CHAR-DOWNCASE #\\A)": "#\\a", "(CHAR-DOWNCASE #\\Z)": "#\\z", "(CHAR-DOWNCASE #\\[)": "#\\[", "(CHAR-DOWNCASE #\\É)": "#\\É",
		"(CHAR \"héb\" 1)": "#\\é", "(CHAR \"héb\" 2)": "#\\b", "(CHAR \"héb\" 3)": "!TYPE-ERROR 3 integer", "(CHAR \"a\" 99999999999999999999)": "!TYPE-ERROR 99999999999999999999 integer", "(CHAR \"a\" -1)": "!TYPE-ERROR -1 unsigned-byte", "(CHAR X 0)": "!TYPE-ERROR x string", "(STRING= \"ab\" \"ab\")": "t", "(STRING= \"ab\" \"aB\")": "nil", "(STRING= \"ab\" X)": "!TYPE-ERROR x string", "(STRING< \"ab\" \"abc\")": "2", "(STRING< \"abc\" \"ab\")": "nil", "(STRING< \"ab\" \"ab\")": "nil", "(STRING< \"aéb\" \"aéc\")": "2", "(STRING< \"ac\" \"ab\")": "nil", "(STRING< \"\" \"a\")": "0", "(STRING< \"B\" \"a\")": "0",
		"(CONCAT)": "\"\"", "(CONCAT \"a\" \"\" \"bé\")": "\"abé\"", "(CONCAT \"a\" X)": "!TYPE-ERROR x string",
		"(SUBSEQ \"hé!lo\" 1 3)": "\"é!\"", "(SUBSEQ \"abc\" 1)": "\"bc\"", "(SUBSEQ \"abc\" 3)": "\"\"", "(SUBSEQ \"abc\" 1 3)": "\"bc\"", "(SUBSEQ \"abc\" 4)": "!TYPE-ERROR 4 integer", "(SUBSEQ \"abc\" 2 1)": "!TYPE-ERROR 1 integer", "(SUBSEQ \"abc\" 1 4)": "!TYPE-ERROR 4 integer", "(SUBSEQ \"abc\" 4 5)": "!TYPE-ERROR 4 integer", "(SUBSEQ \"abc\" 1 99999999999999999999)": "!TYPE-ERROR 99999999999999999999 integer", "(SUBSEQ (1 2 3) 1)": "(2 3)", "(SUBSEQ (1 2 3) 1 1)": "nil", "(SUBSEQ NIL 0)": "nil", "(SUBSEQ #(1 2 3) 0 2)": "#(1 2)", "(SUBSEQ #*1011 1 3)": "#*01", "(SUBSEQ (1 . 2) 0)": "!TYPE-ERROR (1 . 2) sequence", "(SUBSEQ \"abc\" -1)": "!TYPE-ERROR -1 unsigned-byte",
		"(STRING \"a\")": "\"a\"", "(STRING CAR)": "\"CAR\"", "(STRING NIL)": "\"NIL\"", "(STRING #\\é)": "\"é\"", "(STRING 5)": "!TYPE-ERROR 5 string",
	})
}

// P20.1: arrays.
func TestArrays(t *testing.T) {
	check(t, map[string]string{
		"(VECTOR)": "#()", "(VECTOR 1 2)": "#(1 2)", "(MAKE-ARRAY 2)": "#(nil nil)", "(MAKE-ARRAY 2 5)": "#(5 5)", "(MAKE-ARRAY 0)": "#()", "(MAKE-ARRAY (2))": "#(nil nil)", "(MAKE-ARRAY (2 1) 5)": "#2A((5) (5))", "(MAKE-ARRAY NIL 5)": "#0A5", "(MAKE-ARRAY (0 5))": "#2A()", "(MAKE-ARRAY (1 1 1 1 1 1 1) 5)": "#7A(((((((5)))))))", "(MAKE-ARRAY (1 1 1 1 1 1 1 1) 5)": "limit 11", "(MAKE-ARRAY 16385)": "limit 11", "(MAKE-ARRAY (128 129))": "limit 11", "(MAKE-ARRAY 99999999999999999999)": "limit 11", "(MAKE-ARRAY (0 99999999999999999999))": "limit 11",
		"(MAKE-ARRAY -1)": "!TYPE-ERROR -1 list", "(MAKE-ARRAY 1.0)": "!TYPE-ERROR 1.0 list", "(MAKE-ARRAY (1 -1))": "!TYPE-ERROR (1 -1) list", "(MAKE-ARRAY (1 . 1))": "!TYPE-ERROR (1 . 1) list", "(MAKE-ARRAY (1 X))": "!TYPE-ERROR (1 x) list", "(MAKE-ARRAY \"a\")": "!TYPE-ERROR \"a\" list", "(MAKE-ARRAY)": "!PROGRAM-ERROR make-array",
		"(AREF #(1 2) 1)": "2", "(AREF \"hé\" 1)": "#\\é", "(AREF #*10 0)": "1", "(AREF #*10 1)": "0", "(AREF #2A((1 2) (3 4)) 1 0)": "3", "(AREF #0A5)": "5", "(AREF #(1 2) 2)": "!TYPE-ERROR 2 integer", "(AREF #2A((1 2) (3 4)) 1 2)": "!TYPE-ERROR 2 integer", "(AREF #2A((1 2) (3 4)) 3 2)": "!TYPE-ERROR 3 integer", "(AREF #2A((1 2) (3 4)) 1)": "!PROGRAM-ERROR aref", "(AREF #(1))": "!PROGRAM-ERROR aref", "(AREF #(1) 5 5)": "!PROGRAM-ERROR aref", "(AREF)": "!PROGRAM-ERROR aref", "(AREF (1) 0)": "!TYPE-ERROR (1) array", "(AREF #(1) -1)": "!TYPE-ERROR -1 unsigned-byte", "(AREF #(1) X 5)": "!TYPE-ERROR x unsigned-byte", "(AREF #(1) 99999999999999999999)": "!TYPE-ERROR 99999999999999999999 integer", "(AREF \"a\" 1)": "!TYPE-ERROR 1 integer",
		"(%ASET #(1 2) 1 5)": "5", "(%ASET #2A((1)) 0 0 5)": "5", "(%ASET #0A5 X)": "x", "(%ASET #(1) 1 5)": "!TYPE-ERROR 1 integer", "(%ASET #(1) 5)": "!PROGRAM-ERROR %aset", "(%ASET \"a\" 0 5)": "!TYPE-ERROR \"a\" array", "(%ASET #*1 0 0 5)": "!TYPE-ERROR #*1 array", "(%ASET #*1 X 5)": "!TYPE-ERROR x unsigned-byte", "(%ASET #(1))": "!PROGRAM-ERROR %aset", "(%ASET (1) 0 5)": "!TYPE-ERROR (1) array",
		"(ARRAY-DIMENSIONS #2A((1 2)))": "(1 2)", "(ARRAY-DIMENSIONS \"hé\")": "(2)", "(ARRAY-DIMENSIONS #0A1)": "nil", "(ARRAY-DIMENSIONS #*101)": "(3)", "(ARRAY-RANK #2A((1 2)))": "2", "(ARRAY-RANK #(1))": "1", "(ARRAY-RANK #0A1)": "0", "(ARRAY-RANK (1))": "!TYPE-ERROR (1) array",
	})
}

// P20.1: types, functions and values.
func TestValues(t *testing.T) {
	check(t, map[string]string{
		"(TYPEP 1 CL::BIT)": "t", "(TYPEP 2 CL::BIT)": "nil", "(TYPEP 3 (INTEGER 1 5))": "t", "(TYPEP #1=(1 . #1#) (CONS CL::BIT))": "nil", "(TYPEP #1=(1 . #1#) (CONS T))": "t", "(TYPEP #1=#(#1#) CL::VECTOR)": "nil", "(TYPEP (1 . 2) (CONS CL::BIT INTEGER))": "t", "(TYPEP X SYMBOL)": "t", "(TYPEP 1 FOO)": "!SIMPLE-ERROR foo", "(TYPEP 1 5)": "!SIMPLE-ERROR 5", "(TYPEP #1=(1 . #1#) CONS)": "t", "(TYPEP #1=#(#1#) CONS)": "nil", "(TYPEP #1=#(#1#) T)": "t", "(TYPEP (#1=(1) #1#) CONS)": "t", "(TYPEP 1 #1=(CONS . #1#))": "!SIMPLE-ERROR #0=(cons . #0#)", "(TYPEP 1)": "!PROGRAM-ERROR typep",
		"(SUBTYPEP CL::BIT INTEGER)": "t t", "(SUBTYPEP INTEGER CL::BIT)": "nil t", "(SUBTYPEP FOO BAR)": "!SIMPLE-ERROR foo", "(SUBTYPEP INTEGER 5)": "!SIMPLE-ERROR 5",
		"(FUNCALL CAR (1))": "1", "(FUNCALL LIST)": "nil", "(FUNCALL X)": "!UNDEFINED-FUNCTION x", "(FUNCALL 5)": "!TYPE-ERROR 5 function", "(FUNCALL CAR)": "!PROGRAM-ERROR car", "(FUNCALL)": "!PROGRAM-ERROR funcall", "(FUNCALL FUNCALL LIST 1 2)": "(1 2)", "(APPLY LIST (1 2))": "(1 2)", "(APPLY LIST 1 2 (3 4))": "(1 2 3 4)", "(APPLY LIST NIL)": "nil", "(APPLY LIST 1)": "!TYPE-ERROR 1 list", "(APPLY LIST (1 . 2))": "!TYPE-ERROR (1 . 2) list", "(APPLY X 1)": "!UNDEFINED-FUNCTION x", "(APPLY LIST)": "!PROGRAM-ERROR apply", "(APPLY 5 5)": "!TYPE-ERROR 5 function", "(APPLY LIST #1=(1 . #1#))": "!TYPE-ERROR #0=(1 . #0#) list", "(APPLY APPLY (LIST (1)))": "(1)", "(VALUES)": "", "(VALUES 1 2)": "1 2", "(IDENTITY 5)": "5", "(IDENTITY)": "!PROGRAM-ERROR identity",
		"(APPLY APPLY #1=(APPLY #1#))": "limit 10",
	})
}

// raw makes an object with bytes.
func (w tester) raw(kind int) heap.Word {
	w.t.Helper()
	x, _ := w.Heap().Raw(kind, "ab")
	return x
}

// isJust checks which of the functions that tell kinds hold of an object.
func (w tester) isJust(what, kinds string, x heap.Word) {
	w.t.Helper()
	for _, name := range strings.Fields("SYMBOLP KEYWORDP NUMBERP INTEGERP RATIONALP REALP FLOATP COMPLEXP CHARACTERP STRINGP BIT-VECTOR-P VECTORP ARRAYP FUNCTIONP HASH-TABLE-P") {
		want := heap.Nil
		if slices.Contains(strings.Fields(kinds), name) {
			want = w.symbol("T")
		}
		if a := w.call(name, x); a.Kind != AnswerValues || len(a.Values) != 1 || a.Values[0] != want {
			w.t.Errorf("%s of %s: %s", name, what, w.told(a))
		}
	}
}
