package types

import (
	"math/rand"
	"strconv"
	"strings"
	"testing"

	"commonform/api"
	"commonform/forms"
)

// checkSubtype checks what Subtypep says of two types: its witness, or that none of some objects refutes it.
func checkSubtype(t *testing.T, a, b api.Form, objects []api.Form) bool {
	t.Helper()
	is, w, e := Subtypep(a, b)
	if e != api.OK {
		t.Fatalf("Subtypep(%s, %s): %v", show(a), show(b), e)
	}
	if !is {
		if checkObject(w) != api.OK || !isMember(w, a) || isMember(w, b) {
			t.Fatalf("Subtypep(%s, %s) has the witness %s", show(a), show(b), show(w))
		}
		return false
	}
	if w.Kind != 0 {
		t.Fatalf("Subtypep(%s, %s) has the witness %s, and is true", show(a), show(b), show(w))
	}
	for _, x := range objects {
		if isMember(x, a) && !isMember(x, b) {
			t.Fatalf("Subtypep(%s, %s) is refuted by %s", show(a), show(b), show(x))
		}
	}
	return true
}

// P14.1, P14.3: which types are parts of which, with witnesses.
func TestSubtypep(t *testing.T) {
	objects := pool(t)
	for _, line := range strings.Split(`(INTEGER 1 5) < (OR (INTEGER 0 3) (INTEGER 4 9))
(RATIONAL 1 5) ! (OR (RATIONAL 0 3) (RATIONAL 4 9))
(CONS BIT BIT) < (OR (CONS (EQL 0)) (CONS * (EQL 1)) (CONS (EQL 1) (EQL 0)))
(CONS BIT BIT) ! (OR (CONS (EQL 0)) (CONS * (EQL 1)))
NIL < NIL
NIL < T
T ! NIL
T < T
T < (OR CONS SYMBOL NUMBER CHARACTER ARRAY FUNCTION HASH-TABLE ATOM)
T ! (OR CONS SYMBOL NUMBER CHARACTER ARRAY FUNCTION HASH-TABLE)
LIST < (OR CONS NULL)
(OR CONS NULL) < LIST
BOOLEAN < (MEMBER T NIL)
(MEMBER T NIL) < BOOLEAN
BOOLEAN < SYMBOL
SYMBOL ! (OR KEYWORD BOOLEAN)
KEYWORD < (AND SYMBOL (NOT BOOLEAN))
KEYWORD ! (MEMBER :K0 :K1 :K2)
SYMBOL ! (NOT (EQL A))
FUNCTION < (AND ATOM (NOT (OR SYMBOL HASH-TABLE)))
(AND ATOM (NOT (OR SYMBOL NUMBER CHARACTER ARRAY))) ! (OR FUNCTION HASH-TABLE)
REAL < (OR RATIONAL FLOAT)
NUMBER < (OR REAL COMPLEX)
RATIONAL < (OR INTEGER RATIO)
RATIO < (AND RATIONAL (NOT INTEGER))
BIT < (MEMBER 0 1)
(MEMBER 0 1) < BIT
FIXNUM < (INTEGER -1152921504606846976 1152921504606846975)
(INTEGER -1152921504606846976 1152921504606846975) < FIXNUM
(INTEGER 1152921504606846975 1152921504606846976) ! FIXNUM
(INTEGER 1152921504606846975 1152921504606846976) ! BIGNUM
INTEGER < (OR FIXNUM BIGNUM)
BIGNUM < (NOT FIXNUM)
UNSIGNED-BYTE < (INTEGER 0)
(INTEGER (0)) < UNSIGNED-BYTE
(SIGNED-BYTE 61) < FIXNUM
FIXNUM < (SIGNED-BYTE 61)
(INTEGER (1) (2)) < NIL
(INTEGER 2 1) < NIL
(RATIONAL (1) (2)) ! NIL
(RATIONAL (1) (1)) < NIL
(RATIONAL 1 1) < (EQL 1)
(REAL 1 1) < (MEMBER 1 1.0 1d0)
(FLOAT 0 0) < (MEMBER 0.0 -0.0 0d0 -0d0)
(FLOAT 0 0) ! (MEMBER 0.0 0d0 -0d0)
(FLOAT 0 0) ! (MEMBER 0.0 -0.0 0d0)
(SINGLE-FLOAT 1/3 1/3) < NIL
(REAL 1/3 1/3) < (EQL 1/3)
(SINGLE-FLOAT (1.0) (1.0000001)) < NIL
(SINGLE-FLOAT (1.0) (1.0000002)) < (EQL 1.0000001)
(SINGLE-FLOAT 1 (1.0000002)) ! (EQL 1.0000001)
(DOUBLE-FLOAT (1d0) (1.0000000000000002d0)) < NIL
(DOUBLE-FLOAT (1.0) (1.0000001)) ! NIL
(SINGLE-FLOAT 340282340000000000000000000000000000000) < (EQL 3.4028235e38)
(SINGLE-FLOAT 340282340000000000000000000000000000000) ! NIL
(SINGLE-FLOAT 340282360000000000000000000000000000000) < NIL
(SINGLE-FLOAT * -340282360000000000000000000000000000000) < NIL
(DOUBLE-FLOAT 340282360000000000000000000000000000000) ! NIL
(SINGLE-FLOAT (0) (2e-45)) < (EQL 1.4e-45)
(SINGLE-FLOAT (0) (1.4e-45)) < NIL
(DOUBLE-FLOAT (0) (1.4e-45)) ! NIL
(INTEGER 1 2) < (REAL 0.5 2.5)
(REAL 1/2 5/2) ! (REAL 0.5 (2.5))
(SINGLE-FLOAT * (0)) ! NIL
(SINGLE-FLOAT (0)) ! NIL
(DOUBLE-FLOAT * (-1.5)) ! NIL
(DOUBLE-FLOAT (1.5)) ! NIL
(SINGLE-FLOAT * (1/3)) ! (SINGLE-FLOAT * 0)
(SINGLE-FLOAT (1/3)) ! (SINGLE-FLOAT (0.4))
(SINGLE-FLOAT -400000000000000000000000000000000000000 -340282340000000000000000000000000000000) < (EQL -3.4028235e38)
(SINGLE-FLOAT -400000000000000000000000000000000000000 -340282340000000000000000000000000000000) ! NIL
SINGLE-FLOAT < (SINGLE-FLOAT -400000000000000000000000000000000000000 400000000000000000000000000000000000000)
SINGLE-FLOAT ! (OR (SINGLE-FLOAT 400000000000000000000000000000000000000) (SINGLE-FLOAT * -400000000000000000000000000000000000000))
(RATIONAL * (0)) ! INTEGER
(RATIONAL (0)) ! INTEGER
(RATIONAL (1/2)) ! INTEGER
(RATIONAL * (-1/2)) ! INTEGER
(RATIONAL (2/3) (5/3)) ! INTEGER
(RATIONAL (-5/3) (-2/3)) ! INTEGER
(RATIONAL (1/3) (4/3)) ! INTEGER
(RATIONAL (5/2) (11/4)) ! NIL
(AND RATIO (RATIONAL 7 7)) < NIL
BOOLEAN ! NULL
SYMBOL ! (OR NULL KEYWORD (NOT BOOLEAN))
INTEGER ! (NOT (EQL 5))
RATIO ! (NOT (MEMBER 1/2 1/3))
SINGLE-FLOAT ! (NOT (MEMBER 0.0 -0.0 1.0))
(AND INTEGER (NOT (EQL 3)) (INTEGER 2 4)) < (MEMBER 2 4)
CHARACTER ! (MEMBER #\\a #\\b)
COMPLEX ! (MEMBER #C(0 1) #C(0 2))
(EQL #C(0 1)) < COMPLEX
VECTOR < (OR STRING BIT-VECTOR SIMPLE-VECTOR)
VECTOR < (ARRAY * 1)
(ARRAY * 1) < VECTOR
(ARRAY * (3)) < (VECTOR * 3)
(VECTOR * 3) < (ARRAY * (3))
(VECTOR * 3) ! (OR (STRING 3) (SIMPLE-VECTOR 3))
SEQUENCE < (OR LIST VECTOR)
ARRAY ! (OR VECTOR (ARRAY * 0) (ARRAY * 2) (ARRAY * 3) (ARRAY * 4))
(ARRAY * 0) < (ARRAY * ())
(ARRAY * 2) ! (OR (ARRAY * (0 *)) (ARRAY * (1 *)) (ARRAY * (2 *)) (ARRAY * (3 *)) (ARRAY * (4 *)))
(ARRAY * (* 2)) < (ARRAY * 2)
(AND (ARRAY * (* 2)) (ARRAY * (3 *))) < (ARRAY * (3 2))
(STRING 2) ! (OR (STRING 1) (STRING 3))
STRING ! (OR (STRING 0) (STRING 1) (STRING 2))
(CONS NIL) < NIL
(CONS T NIL) < NIL
(CONS NIL T) < CONS
CONS < (CONS T T)
CONS < (OR (CONS BIT) (CONS (NOT BIT)))
CONS ! (OR (CONS BIT BIT) (CONS (NOT BIT) (NOT BIT)))
(CONS (OR BIT STRING) NULL) < (OR (CONS BIT NULL) (CONS STRING NULL))
(CONS (CONS (CONS BIT))) < (CONS (CONS (CONS INTEGER)))
(CONS (CONS (CONS INTEGER))) ! (CONS (CONS (CONS BIT)))
(CONS * (CONS * (CONS * (CONS * NULL)))) < (CONS * (CONS * (CONS * CONS)))
(NOT (CONS BIT)) ! ATOM
(AND (CONS BIT) (CONS * BIT)) < (CONS BIT BIT)
(CONS BIT BIT) < (AND (CONS BIT) (CONS * BIT))
(AND) < (NOT (OR))
(NOT T) < (MEMBER)`, "\n") {
		yes := strings.Contains(line, " < ")
		first, second, _ := strings.Cut(strings.ReplaceAll(line, `\\`, `\`), map[bool]string{true: " < ", false: " ! "}[yes])
		a, b := parse(t, first), parse(t, second)
		if is := checkSubtype(t, a, b, objects); is != yes {
			t.Errorf("Subtypep(%s, %s) = %v", first, second, is)
		}
		difference := And([]api.Form{a, Not(b)})
		if is, w, e := Empty(difference); is != yes || e != api.OK || !is && !isMember(w, difference) || is && w.Kind != 0 {
			t.Errorf("Empty(%s) = %v, %s, %v", show(difference), is, show(w), e)
		}
	}
	if is, w, e := Subtypep(parse(t, "(RATIONAL 1 5)"), parse(t, "(OR (RATIONAL 0 3) (RATIONAL 4 9))")); is || e != api.OK || w.Kind != api.FormRatio {
		t.Errorf("the witness of (RATIONAL 1 5) is %s", show(w))
	}
}

// P14.1: errors of two types, of one, and of several.
func TestSubtypeErrors(t *testing.T) {
	good, bad := name("BIT"), name("FOO")
	for _, pair := range [][2]api.Form{{good, bad}, {bad, good}, {bad, bad}, {api.Form{}, good}} {
		if is, w, e := Subtypep(pair[0], pair[1]); is || w.Kind != 0 || e != ErrType {
			t.Errorf("Subtypep: %v, %v", is, e)
		}
		for _, f := range []func(a, b api.Form) (api.Form, api.Errno){Plus, Times} {
			if x, e := f(pair[0], pair[1]); x.Kind != 0 || e != ErrType {
				t.Errorf("Plus or Times: %v, %v", show(x), e)
			}
		}
		if l, e := Samples(pair[:]); l != nil || e != ErrType {
			t.Errorf("Samples: %v, %v", l, e)
		}
	}
	if is, w, e := Empty(bad); is || w.Kind != 0 || e != ErrType {
		t.Errorf("Empty: %v, %v", is, e)
	}
	if some, lo, hi, e := Integers(bad); some || lo.Kind != 0 || hi.Kind != 0 || e != ErrType {
		t.Errorf("Integers: %v, %v", some, e)
	}
	if l, e := Samples([]api.Form{bad, bad, bad, bad, bad, bad, bad}); l != nil || e != api.ErrSize {
		t.Errorf("Samples of seven types: %v", e)
	}
	if l, e := Samples([]api.Form{good, good, good, good, good, good}); len(l) == 0 || e != api.OK {
		t.Errorf("Samples of six types: %v", e)
	}
}

// P14.2, P14.3, P14.4: parts by chance: witnesses, objects that refute nothing, and the laws of sets.
func TestSubtypeLaws(t *testing.T) {
	m, objects := maker{rand.New(rand.NewSource(2))}, pool(t)
	yes := 0
	for range 1500 {
		a, b := parse(t, m.specifier(2, 2)), parse(t, m.specifier(2, 2))
		c := parse(t, m.specifier(1, 1))
		both := Or([]api.Form{And([]api.Form{a, Not(b)}), c})
		if Check(both) != api.OK {
			continue
		}
		is := checkSubtype(t, a, b, objects)
		if is {
			yes++
		}
		empty, w, e := Empty(And([]api.Form{a, Not(b)}))
		if e != api.OK || empty != is || !empty && (!isMember(w, a) || isMember(w, b)) {
			t.Fatalf("Subtypep(%s, %s) is %v, and Empty of the difference %v, %s", show(a), show(b), is, empty, show(w))
		}
		for _, law := range [][2]api.Form{{a, a}, {name("NIL"), a}, {a, name("T")}, {a, Or([]api.Form{b, a})}, {And([]api.Form{a, b}), b}, {a, Not(Not(a))}} {
			if is, w, e := Subtypep(law[0], law[1]); !is || e != api.OK {
				t.Fatalf("Subtypep(%s, %s) is false, with %s", show(law[0]), show(law[1]), show(w))
			}
		}
		// transitive: a is a part of b, and b of b or c
		wider := Or([]api.Form{b, c})
		if through, _, _ := Subtypep(a, wider); is && !through {
			t.Fatalf("%s is a part of %s, but not of %s", show(a), show(b), show(wider))
		}
		x := objects[m.Intn(len(objects))]
		if eql := call("EQL", x); Check(eql) == api.OK {
			if part, _, _ := Subtypep(eql, a); part != isMember(x, a) {
				t.Fatalf("Subtypep(%s, %s) is %v", show(eql), show(a), part)
			}
		}
	}
	if yes < 100 {
		t.Errorf("only %d pairs by chance were parts", yes)
	}
}

// P14.1: Samples tell any two types apart that are made of some: each class of the pool's objects has a sample.
func TestSamples(t *testing.T) {
	m, objects := maker{rand.New(rand.NewSource(3))}, pool(t)
	classOf := func(x api.Form, l []api.Form) string {
		text := ""
		for _, s := range l {
			text += strconv.FormatBool(isMember(x, s))
		}
		return text
	}
	for range 400 {
		var l []api.Form
		for range m.Intn(7) {
			l = append(l, parse(t, m.specifier(2, 2)))
		}
		samples, e := Samples(l)
		if e != api.OK {
			t.Fatal(e)
		}
		there := map[string]bool{}
		for _, x := range samples {
			if checkObject(x) != api.OK {
				t.Fatalf("the sample %s is no object", show(x))
			}
			there[classOf(x, l)] = true
		}
		for _, x := range objects {
			if !there[classOf(x, l)] {
				t.Fatalf("Samples of %v have none like %s", l, show(x))
			}
		}
	}
}

// P14.1: all classes that 0 to 4 conses can make are found.
func TestDeepConses(t *testing.T) {
	deep := func(path string, s string) string {
		for i := len(path) - 1; i >= 0; i-- {
			if path[i] == 'a' {
				s = "(CONS " + s + ")"
			} else {
				s = "(CONS * " + s + ")"
			}
		}
		return s
	}
	for n := range 16 {
		path := ""
		for i := range 4 {
			path += string("ad"[n>>i&1])
		}
		checkSubtype(t, parse(t, deep(path, "BIT")), parse(t, deep(path, "INTEGER")), nil)
		if checkSubtype(t, parse(t, deep(path, "INTEGER")), parse(t, deep(path, "BIT")), nil) {
			t.Errorf("%s: INTEGER is a part of BIT", path)
		}
		other := path[:3] + string("da"[n>>3])
		if checkSubtype(t, parse(t, deep(path, "BIT")), parse(t, deep(other, "BIT")), nil) {
			t.Errorf("%s is a part of %s", path, other)
		}
		if checkSubtype(t, parse(t, deep(path, "BIT")), parse(t, "(AND "+deep(path, "INTEGER")+" "+deep(path[:3], "CONS")+")"), nil) != true {
			t.Errorf("%s is no part of conses", path)
		}
	}
}

// P14.1: six great types with conses in one another, whose parts can be told apart in very many ways.
func TestGreatTypes(t *testing.T) {
	leaves := strings.Fields("BIT STRING SYMBOL CHARACTER RATIO FLOAT")
	for _, first := range []string{"a", "d"} {
		var l []api.Form
		n := 0
		for range 6 {
			text := "(OR"
			for range 5 {
				s := leaves[n/8%6]
				for _, bit := range []int{n & 1, n >> 1 & 1, n >> 2 & 1, strings.Index("ad", first)} {
					s = []string{"(CONS " + s + ")", "(CONS * " + s + ")"}[bit]
				}
				text += " " + s
				n++
			}
			l = append(l, parse(t, text+")"))
		}
		samples, e := Samples(l)
		if e != api.OK {
			t.Fatal(e)
		}
		met := map[string]bool{}
		for _, x := range samples {
			class := ""
			for _, s := range l {
				class += strconv.FormatBool(isMember(x, s))
			}
			met[class] = true
		}
		if len(met) != 64 {
			t.Errorf("%s: %d classes, expected 64", first, len(met))
		}
	}
}

// P14.4: an object is of the type that Of returns.
func TestOf(t *testing.T) {
	for text, want := range map[string]string{
		"NIL": "(EQL NIL)", "T": "(EQL T)", "A": "(EQL A)", ":A": "(EQL :A)", "#:A": "SYMBOL", "%::BUILTIN": "FUNCTION", "%::CLOSURE": "FUNCTION", "%::TABLE": "HASH-TABLE", "%::BOX": "ATOM", "%::NIL": "ATOM", "1": "(EQL 1)", "1/2": "(EQL 1/2)", "-0.0": "(EQL -0.0)", "1d0": "(EQL 1d0)", "#C(1 2)": "(EQL #C(1 2))", "#\\a": "(EQL #\\a)",
		"\"éa\"": "(STRING 2)", "\"\"": "(STRING 0)", "#*101": "(BIT-VECTOR 3)", "#(1 2 3)": "(SIMPLE-VECTOR 3)", "#0A1": "(ARRAY * ())", "#2A((1 2))": "(ARRAY * (1 2))", "#2A((1 2 3 4 5))": "ARRAY", "#4A(())": "(ARRAY * (1 0 0 0))", "#5A((((()))))": "ARRAY",
		"(1 . 2)": "(CONS (EQL 1) (EQL 2))", "(1)": "(CONS (EQL 1) (EQL NIL))", "(1 2 3)": "(CONS (EQL 1) (CONS (EQL 2) (CONS (EQL 3) (EQL NIL))))", "(1 2 3 4)": "(CONS (EQL 1) (CONS (EQL 2) (CONS (EQL 3) (CONS (EQL 4) (EQL NIL)))))", "(1 2 3 4 5)": "(CONS (EQL 1) (CONS (EQL 2) (CONS (EQL 3) (CONS (EQL 4) CONS))))", "((((1))))": "(CONS (CONS (CONS (CONS (EQL 1) (EQL NIL)) (EQL NIL)) (EQL NIL)) (EQL NIL))", "(((((1)))))": "(CONS (CONS (CONS (CONS CONS (EQL NIL)) (EQL NIL)) (EQL NIL)) (EQL NIL))", "(\"a\" #:X)": "(CONS (STRING 1) (CONS SYMBOL (EQL NIL)))",
		texts(200, "1"): "(EQL " + texts(200, "1") + ")", texts(201, "1"): "T", "(" + texts(201, "1") + ")": "T", "#C(1 " + texts(201, "1") + ")": "T", "(1 #(" + texts(201, "1") + "))": "(CONS (EQL 1) (CONS (SIMPLE-VECTOR 1) (EQL NIL)))",
		"(((1 . 1) 1 . 1) (1 . 1) 1 . 1)": "(CONS (CONS (CONS (EQL 1) (EQL 1)) (CONS (EQL 1) (EQL 1))) (CONS (CONS (EQL 1) (EQL 1)) (CONS (EQL 1) (EQL 1))))", "((((1 . 1) 1 . 1) (1 . 1) 1 . 1) ((1 . 1) 1 . 1) (1 . 1) 1 . 1)": "T",
		"\"" + texts(50, "a") + "\"": "(STRING 50)", "\"" + texts(51, "a") + "\"": "STRING", "#*" + texts(50, "1"): "(BIT-VECTOR 50)", "#*" + texts(51, "1"): "BIT-VECTOR", "#(" + texts(50, "1 ") + ")": "(SIMPLE-VECTOR 50)", "#(" + texts(51, "1 ") + ")": "SIMPLE-VECTOR",
	} {
		of, e := Of(parse(t, text))
		if e != api.OK || !forms.Equal(of, parse(t, want)) {
			t.Errorf("Of(%.60s) = %s, %v, expected %.60s", text, show(of), e, want)
		}
	}
	for _, x := range pool(t) {
		of, e := Of(x)
		is, f := Typep(x, of)
		if e != api.OK || f != api.OK || !is {
			t.Errorf("Of(%s) = %s, %v; Typep: %v, %v", show(x), show(of), e, is, f)
		}
	}
}
