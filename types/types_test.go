package types

import (
	"math/rand"
	"strings"
	"testing"

	"commonform/api"
	"commonform/forms"
)

func texts(n int, word string) string { return strings.Repeat(word, n) }

// P14.1: what is a type specifier, and what is none.
func TestCheck(t *testing.T) {
	right := strings.Split("T|NIL|ATOM|CONS|NULL|LIST|SYMBOL|KEYWORD|BOOLEAN|NUMBER|REAL|RATIONAL|INTEGER|RATIO|FLOAT|SINGLE-FLOAT|DOUBLE-FLOAT|COMPLEX|BIT|FIXNUM|BIGNUM|UNSIGNED-BYTE|CHARACTER|STRING|BIT-VECTOR|SIMPLE-VECTOR|VECTOR|ARRAY|SEQUENCE|FUNCTION|HASH-TABLE"+
		"|(AND)|(OR)|(AND T)|(OR T NIL BIT)|(NOT T)|(MEMBER)|(MEMBER 1 A :B #\\c 1.5 #C(1 2) 1/2 1d0 NIL T)|(EQL 1)|(EQL OTHER::X)"+
		"|(INTEGER)|(INTEGER 1)|(INTEGER *)|(INTEGER 1 5)|(INTEGER (1) (5))|(INTEGER 5 1)|(INTEGER * *)|(RATIONAL 1/2 (3))|(REAL 1.5 2d0)|(REAL (1/2) *)|(FLOAT 1 2)|(FLOAT 1/3)|(SINGLE-FLOAT 1d0 (2))|(DOUBLE-FLOAT 1.0)"+
		"|(UNSIGNED-BYTE 1)|(UNSIGNED-BYTE 200)|(SIGNED-BYTE 1)|(SIGNED-BYTE 200)|(MOD 1)|(MOD 1000000000)"+
		"|(CONS)|(CONS *)|(CONS * *)|(CONS BIT)|(CONS BIT NULL)|(CONS * BIT)|(CONS BIT *)|(CONS (CONS (CONS (CONS))))|(CONS * (CONS * (CONS * (CONS CONS CONS))))|(AND (CONS) (CONS (CONS)) (NOT (CONS (CONS (CONS (CONS T))))))"+
		"|(STRING *)|(STRING 0)|(STRING 50)|(BIT-VECTOR 50)|(BIT-VECTOR *)|(SIMPLE-VECTOR 3)|(VECTOR * *)|(VECTOR * 50)|(ARRAY * *)|(ARRAY * 0)|(ARRAY * 4)|(ARRAY * NIL)|(ARRAY * ())|(ARRAY * (*))|(ARRAY * (0 4 * 2))", "|")
	wrong := strings.Split("FOO|*|AND|OR|NOT|MEMBER|EQL|MOD|SIGNED-BYTE|:T|KEYWORD::T|#:T|OTHER::T|1|\"T\"|#\\T|1.5|#(T)|#*1|(T)|(NIL)|(BIT)|(FIXNUM)|(ATOM)|(FUNCTION)|(RATIO 1 2)|(COMPLEX)|(NUMBER 1)|(AND . T)|(AND T . T)|(1)|((AND))|(FOO T)|(:AND T)"+
		"|(AND 1)|(OR FOO)|(NOT)|(NOT T T)|(NOT 1)|(EQL)|(EQL 1 2)|(EQL \"a\")|(EQL (1))|(EQL #(1))|(EQL #*1)|(EQL #:X)|(EQL %::BUILTIN)|(MEMBER 1 \"a\")|(MEMBER 1 #:X)|(MEMBER 1 . 2)"+
		"|(INTEGER 1 2 3)|(INTEGER 1/2)|(INTEGER 1.0)|(INTEGER (1/2))|(INTEGER A)|(INTEGER NIL)|(INTEGER (*))|(INTEGER (1 2))|(INTEGER (1 . 2))|(INTEGER ((1)))|(INTEGER \"1\")|(INTEGER :*)|(RATIONAL 1.0)|(RATIONAL * (1d0))|(REAL #C(1 2))|(FLOAT #C(1.0 2.0))|(REAL #\\1)"+
		"|(UNSIGNED-BYTE 0)|(UNSIGNED-BYTE 201)|(UNSIGNED-BYTE *)|(UNSIGNED-BYTE)|(UNSIGNED-BYTE 1 2)|(UNSIGNED-BYTE 1.0)|(SIGNED-BYTE 0)|(SIGNED-BYTE 201)|(SIGNED-BYTE)|(MOD 0)|(MOD 1000000001)|(MOD -1)|(MOD 1/2)|(MOD (5))|(MOD \"5\")|(MOD 99999999999999999999)"+
		"|(CONS 1)|(CONS T T T)|(CONS * FOO)|(CONS (CONS (CONS (CONS (CONS)))))|(CONS * (CONS * (CONS * (CONS * (CONS *)))))|(CONS (AND (CONS (OR (CONS (NOT (CONS (CONS T))))))))"+
		"|(STRING)|(STRING 51)|(STRING -1)|(STRING 1 2)|(STRING A)|(STRING 1.0)|(STRING (1))|(STRING \"1\")|(STRING #\\1)|(STRING #*1)|(BIT-VECTOR)|(BIT-VECTOR 51)|(SIMPLE-VECTOR)|(SIMPLE-VECTOR -1)|(VECTOR)|(VECTOR *)|(VECTOR T 5)|(VECTOR * 51)|(VECTOR 5 *)|(VECTOR * 1 2)|(ARRAY)|(ARRAY *)|(ARRAY T 2)|(ARRAY * 5)|(ARRAY * -1)|(ARRAY * (5))|(ARRAY * (1 2 3 4 0))|(ARRAY * (1 . 2))|(ARRAY * (A))|(ARRAY * ((1)))|(ARRAY * 1 2)|(ARRAY * T)", "|")
	for _, text := range right {
		if e := Check(parse(t, text)); e != api.OK {
			t.Errorf("Check(%s) = %v, expected no error", text, e)
		}
	}
	for _, text := range wrong {
		if e := Check(parse(t, text)); e != ErrType {
			t.Errorf("Check(%s) = %v, expected ErrType", text, e)
		}
	}
}

// P14.1: sizes of specifiers, long numbers, and trees that are no forms.
func TestCheckLimits(t *testing.T) {
	bits := func(n int) string { return "(AND" + texts(n, " BIT") + ")" }
	digits := func(n int) string { return texts(n, "1") }
	for text, want := range map[string]api.Errno{
		bits(97): api.OK, bits(98): ErrType, "(MEMBER" + texts(97, " 1") + ")": api.OK, "(MEMBER" + texts(98, " 1") + ")": ErrType, texts(25, "(NOT ") + "T" + texts(25, ")"): api.OK, texts(34, "(NOT ") + "T" + texts(34, ")"): ErrType,
		"(INTEGER " + digits(200) + ")": api.OK, "(INTEGER " + digits(201) + ")": ErrType, "(INTEGER -" + digits(199) + ")": api.OK, "(INTEGER -" + digits(200) + ")": ErrType, "(EQL " + digits(201) + ")": ErrType, "(EQL #C(1 " + digits(200) + "))": api.OK, "(EQL #C(1 " + digits(201) + "))": ErrType, "(MEMBER 1/" + digits(198) + ")": api.OK,
	} {
		if e := Check(parse(t, text)); e != want {
			t.Errorf("Check(%.60s) = %v, expected %v", text, e, want)
		}
	}
	one := api.Form{Kind: api.FormInt, Text: "1"}
	for _, x := range []api.Form{
		{}, {Kind: 99}, {Kind: api.FormSymbol, Text: "T", Home: lisp, Kids: []api.Form{one}}, {Kind: api.FormLabel, Text: "1", Kids: []api.Form{name("T")}}, {Kind: api.FormRef, Text: "1"}, {Kind: api.FormCons, Kids: []api.Form{name("AND")}}, {Kind: api.FormCons, Kids: []api.Form{name("EQL"), {Kind: api.FormInt, Text: "01"}, forms.Nil()}},
		call("AND", api.Form{Kind: api.FormLabel, Text: "1", Kids: []api.Form{name("T")}}), call("EQL", api.Form{Kind: api.FormSingle, Text: "7f800000"}), call("REAL", api.Form{Kind: api.FormDouble, Text: "7ff0000000000000"}), call("EQL", api.Form{Kind: api.FormRatio, Text: texts(20, "2") + "/" + texts(20, "4")}), call("EQL", api.Form{Kind: api.FormChar, Text: "ab"}), {Kind: api.FormCons, Kids: []api.Form{name("AND"), {Kind: api.FormCons, Kids: []api.Form{name("T"), forms.Nil()}}}},
	} {
		if e := Check(x); e != ErrType {
			t.Errorf("Check(%s) = %v, expected ErrType", show(x), e)
		}
	}
}

// P14.1: examples of membership.
func TestTypep(t *testing.T) {
	for text, want := range map[string]string{
		"1": "T ATOM NUMBER REAL RATIONAL INTEGER BIT FIXNUM UNSIGNED-BYTE", "-1": "T ATOM NUMBER REAL RATIONAL INTEGER FIXNUM", "2": "T ATOM NUMBER REAL RATIONAL INTEGER FIXNUM UNSIGNED-BYTE", "1152921504606846975": "T ATOM NUMBER REAL RATIONAL INTEGER FIXNUM UNSIGNED-BYTE", "1152921504606846976": "T ATOM NUMBER REAL RATIONAL INTEGER BIGNUM UNSIGNED-BYTE", "-1152921504606846976": "T ATOM NUMBER REAL RATIONAL INTEGER FIXNUM", "-1152921504606846977": "T ATOM NUMBER REAL RATIONAL INTEGER BIGNUM",
		"1/2": "T ATOM NUMBER REAL RATIONAL RATIO", "1.0": "T ATOM NUMBER REAL FLOAT SINGLE-FLOAT", "1d0": "T ATOM NUMBER REAL FLOAT DOUBLE-FLOAT", "#C(1 2)": "T ATOM NUMBER COMPLEX", "#\\a": "T ATOM CHARACTER", "NIL": "T ATOM NULL LIST SYMBOL BOOLEAN SEQUENCE", "T": "T ATOM SYMBOL BOOLEAN", ":NIL": "T ATOM SYMBOL KEYWORD", "X": "T ATOM SYMBOL", "#:X": "T ATOM SYMBOL", "%::BUILTIN": "T ATOM FUNCTION", "%::CLOSURE": "T ATOM FUNCTION", "%::TABLE": "T ATOM HASH-TABLE", "%::NIL": "T ATOM", "%::|closure|": "T ATOM",
		"\"a\"": "T ATOM STRING VECTOR ARRAY SEQUENCE", "#*1": "T ATOM BIT-VECTOR VECTOR ARRAY SEQUENCE", "#(1)": "T ATOM SIMPLE-VECTOR VECTOR ARRAY SEQUENCE", "#2A((1))": "T ATOM ARRAY", "#0A1": "T ATOM ARRAY", "(1)": "T CONS LIST SEQUENCE", "(1 . 2)": "T CONS LIST SEQUENCE",
	} {
		x := parse(t, text)
		for _, s := range strings.Fields("T NIL ATOM CONS NULL LIST SYMBOL KEYWORD BOOLEAN NUMBER REAL RATIONAL INTEGER RATIO FLOAT SINGLE-FLOAT DOUBLE-FLOAT COMPLEX BIT FIXNUM BIGNUM UNSIGNED-BYTE CHARACTER STRING BIT-VECTOR SIMPLE-VECTOR VECTOR ARRAY SEQUENCE FUNCTION HASH-TABLE") {
			if is, e := Typep(x, name(s)); e != api.OK || is != isOne(s, want) {
				t.Errorf("Typep(%s, %s) = %v, %v", text, s, is, e)
			}
		}
	}
	for text, want := range map[string]string{ // the objects that are of a type, and behind a bar those that are not
		"(INTEGER 1 5)": "1 5 3|0 6 1.0 1/2 T", "(INTEGER (1) (5))": "2 4|1 5", "(INTEGER 2)": "2 99|1", "(INTEGER * 2)": "2 -99|3", "(INTEGER)": "0|0.0", "(INTEGER 5 1)": "|1 3 5", "(RATIONAL 1/2 (3))": "1/2 1 5/2|3 1/3 1.0", "(REAL 1/3 1)": "1/3 1.0 0.5 0.33333334 1|0.3333333 0.3333333333333333d0 0 #C(1 2)", "(REAL (1.0) *)": "2 1.0000001 3/2|1 1.0 1d0", "(FLOAT -1 0)": "-0.0 0.0 0d0 -1d0|0 -1", "(SINGLE-FLOAT 0 1)": "0.0 -0.0 1.0|0d0 1.0000001", "(DOUBLE-FLOAT (0.1))": "0.10000000149011613d0|0.1d0 0.10000000149011612d0 0.2",
		"(EQL 1)": "1|1.0 1d0", "(EQL 0.0)": "0.0|-0.0 0 0d0", "(MEMBER A #\\a 1/2 #C(1 2))": "A #\\a 1/2 #C(1 2)|:A #:A OTHER::A #\\A 0.5 \"a\"", "(MEMBER)": "|NIL 1", "(MOD 3)": "0 2|3 -1 1.0", "(UNSIGNED-BYTE 3)": "0 7|8 -1", "(SIGNED-BYTE 3)": "-4 3|-5 4", "(SIGNED-BYTE 1)": "-1 0|1 -2", "(UNSIGNED-BYTE 200)": "1606938044258990275541962092341162602522202993782792835301375|1606938044258990275541962092341162602522202993782792835301376",
		"(CONS BIT)": "(1) (0 . 5)|(2) NIL 1", "(CONS * NULL)": "(1) ((2))|(1 2) (1 . 2)", "(CONS BIT (CONS BIT *))": "(1 0) (1 0 . 5)|(1) (1 2) (1 . 0)", "(CONS)": "(1)|NIL", "(STRING 2)": "\"ab\" \"éé\"|\"a\" #*11 #(1 2)", "(STRING *)": "\"\"|#()", "(BIT-VECTOR 2)": "#*01|\"ab\" #*1", "(SIMPLE-VECTOR 0)": "#()|\"\" #(1)", "(VECTOR * 1)": "#*1 \"a\" #(1)|#() (1) #2A((1))", "(VECTOR * *)": "#* \"\" #()|#0A1 NIL",
		"(ARRAY * *)": "#0A1 #* \"\"|NIL", "(ARRAY * 1)": "#*11 #(1) \"\"|#0A1 #2A((1))", "(ARRAY * 0)": "#0A1|#()", "(ARRAY * 2)": "#2A() #2A((1))|#3A() #(1)", "(ARRAY * ())": "#0A1|#()", "(ARRAY * (2))": "#*11 \"ab\" #(1 2)|#(1) #2A((1)(1))", "(ARRAY * (* 2))": "#2A((1 1)) #2A((1 1)(1 1))|#2A((1)) #(1 2)", "(ARRAY * (1 *))": "#2A((1 1)) #2A(())|#2A() #2A((1)(1))",
		"(AND INTEGER (NOT BIT))": "2 -1|0 1 1/2", "(AND)": "1 NIL|", "(OR)": "|1 NIL", "(OR BIT STRING)": "1 \"\"|2 A", "(NOT ATOM)": "(1)|1",
	} {
		yes, no, _ := strings.Cut(want, "|")
		for i, list := range []string{yes, no} {
			for _, x := range parseList(t, list) {
				if is, e := Typep(x, parse(t, text)); e != api.OK || is != (i == 0) {
					t.Errorf("Typep(%s, %s) = %v, %v", show(x), text, is, e)
				}
			}
		}
	}
}

// parseList reads forms with spaces between them.
func parseList(t *testing.T, text string) []api.Form {
	t.Helper()
	items, _ := forms.Items(parse(t, "("+text+")"))
	return items
}

// P14.1: errors of objects come ahead of those of types.
func TestObjectErrors(t *testing.T) {
	wrong := name("FOO")
	label := api.Form{Kind: api.FormLabel, Text: "1", Kids: []api.Form{{Kind: api.FormString, Text: "a"}}}
	infinity := api.Form{Kind: api.FormSingle, Text: "7f800000"}
	vector := api.Form{Kind: api.FormVector}
	for _, c := range []struct {
		x    api.Form
		want api.Errno
	}{
		{api.Form{}, api.ErrForm}, {api.Form{Kind: api.FormInt, Text: "01"}, api.ErrForm}, {api.Form{Kind: api.FormVector, Kids: make([]api.Form, 2000)}, api.ErrSize}, {api.Form{Kind: api.FormRef, Text: "1"}, forms.ErrLabel}, {api.Form{Kind: api.FormVector, Kids: []api.Form{label, label}}, api.ErrTwice},
		{label, api.ErrForm}, {call("A", label), api.ErrForm}, {infinity, api.ErrForm}, {api.Form{Kind: api.FormVector, Kids: []api.Form{vector, infinity}}, api.ErrForm}, {api.Form{Kind: api.FormInt, Text: texts(20001, "1")}, api.ErrForm}, {api.Form{Kind: api.FormRatio, Text: texts(20, "2") + "/" + texts(20, "4")}, api.ErrForm}, {api.Form{Kind: api.FormComplex, Kids: []api.Form{infinity, infinity}}, api.ErrForm}, {vector, ErrType},
	} {
		if is, e := Typep(c.x, wrong); is || e != c.want {
			t.Errorf("Typep(%.60s): %v, %v, expected %v", show(c.x), is, e, c.want)
		}
		if of, e := Of(c.x); c.want != ErrType && (of.Kind != 0 || e != c.want) {
			t.Errorf("Of(%.60s): %v, %v, expected %v", show(c.x), show(of), e, c.want)
		}
	}
	if is, e := Typep(api.Form{Kind: api.FormInt, Text: texts(20000, "1")}, name("BIGNUM")); !is || e != api.OK {
		t.Errorf("Typep of a long number: %v, %v", is, e)
	}
}

// P14.1, P14.2: membership by chance, against the words of the document.
func TestTypepLaws(t *testing.T) {
	m, objects := maker{rand.New(rand.NewSource(1))}, pool(t)
	for range 1500 {
		a, b := parse(t, m.specifier(3, 2)), parse(t, m.specifier(2, 2))
		if Check(And([]api.Form{a, b})) != api.OK {
			continue
		}
		for range 20 {
			x := objects[m.Intn(len(objects))]
			inA, e := Typep(x, a)
			if e != api.OK || inA != isMember(x, a) {
				t.Fatalf("Typep(%s, %s) = %v, %v", show(x), show(a), inA, e)
			}
			inB, _ := Typep(x, b)
			both, _ := Typep(x, And([]api.Form{a, b}))
			either, _ := Typep(x, Or([]api.Form{a, b}))
			not, _ := Typep(x, Not(a))
			if both != (inA && inB) || either != (inA || inB) || not == inA {
				t.Fatalf("Typep(%s) of %s and %s: %v, %v, %v", show(x), show(a), show(b), both, either, not)
			}
		}
	}
}

// P14.6: each object is of just one of these types, or of none.
func TestNames(t *testing.T) {
	for _, x := range pool(t) {
		count := ""
		for _, s := range strings.Fields("CONS SYMBOL INTEGER RATIO SINGLE-FLOAT DOUBLE-FLOAT COMPLEX CHARACTER ARRAY FUNCTION HASH-TABLE") {
			if is, _ := Typep(x, name(s)); is {
				count += s
			}
		}
		if count != className(x) {
			t.Errorf("%s is of %s, expected %s", show(x), count, className(x))
		}
	}
}

// P14.1: lists of types, of any forms, that share nothing with them.
func TestLists(t *testing.T) {
	x := api.Form{Kind: api.FormVector, Kids: []api.Form{{Kind: 99}}}
	for want, f := range map[string]api.Form{"(AND)": And(nil), "(OR)": Or(nil), "(AND BIT T)": And([]api.Form{name("BIT"), name("T")}), "(OR BIT)": Or([]api.Form{name("BIT")}), "(NOT BIT)": Not(name("BIT"))} {
		if !forms.Equal(f, parse(t, want)) {
			t.Errorf("%s, expected %s", show(f), want)
		}
	}
	for _, f := range []api.Form{And([]api.Form{x}), Or([]api.Form{x}), Not(x)} {
		f.Kids[1].Kids[0].Kind = 5
		if x.Kids[0].Kind != 99 {
			t.Errorf("%s shares memory with its argument", show(f))
		}
	}
}

// P14.1: the code of the layer.
func TestCodes(t *testing.T) {
	if ErrType != 160 {
		t.Errorf("the code is %d", ErrType)
	}
}
