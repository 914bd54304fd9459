package lib

import (
	"math/rand"
	"reflect"
	"slices"
	"strings"
	"testing"

	"commonform/api"
	"commonform/forms"
	"commonform/heap"
	"commonform/symbols"
	"commonform/table"
)

// firstNames are the symbols of a new world, in the order of the chapter.
const firstNames = "NIL T CONS CAR CDR RPLACA RPLACD LIST LIST* CONSP ATOM LISTP NULL NOT APPEND REVERSE NTH NTHCDR LAST LENGTH MEMBER ASSOC COPY-LIST EQ EQL EQUAL EQUALP SYMBOLP KEYWORDP NUMBERP INTEGERP RATIONALP REALP FLOATP COMPLEXP CHARACTERP STRINGP BIT-VECTOR-P VECTORP ARRAYP FUNCTIONP HASH-TABLE-P " +
	"+ * - / = /= < <= > >= MAX MIN ABS FLOOR CEILING TRUNCATE ROUND MOD REM GCD LCM LOGAND LOGIOR LOGXOR LOGNOT ASH EXPT NUMERATOR DENOMINATOR COMPLEX REALPART IMAGPART RATIONAL RATIONALIZE FLOAT SYMBOL-NAME SYMBOL-PACKAGE SYMBOL-VALUE SET BOUNDP MAKUNBOUND SYMBOL-FUNCTION %FSET FBOUNDP FMAKUNBOUND SYMBOL-PLIST %SET-PLIST INTERN FIND-SYMBOL MAKE-SYMBOL GENSYM " +
	"CHAR-CODE CODE-CHAR CHAR-UPCASE CHAR-DOWNCASE CHAR STRING= STRING< CONCAT SUBSEQ STRING VECTOR MAKE-ARRAY AREF %ASET ARRAY-DIMENSIONS ARRAY-RANK MAKE-HASH-TABLE GETHASH %PUTHASH REMHASH CLRHASH HASH-TABLE-COUNT HASH-KEYS TYPEP SUBTYPEP FUNCALL APPLY VALUES IDENTITY PRIN1 PRINC PRINT TERPRI WRITE-STRING PRIN1-TO-STRING PRINC-TO-STRING READ-FROM-STRING FORMAT " +
	"SEQUENCE SYMBOL NUMBER REAL INTEGER UNSIGNED-BYTE CHARACTER ARRAY HASH-TABLE FUNCTION"

// P20.1: what a new world has.
func TestNewWorld(t *testing.T) {
	w := newTester(t, 20000)
	names := strings.Fields(firstNames)
	for i, want := range names {
		name, home, e := w.Symbols().Symbol(i)
		n, status, _ := w.Symbols().Find(lisp, want)
		if name != want || home != lisp || e != api.OK || n != i || status != symbols.External {
			t.Errorf("the symbol %d is %s of %s; want %s", i, name, home, want)
		}
	}
	if _, _, e := w.Symbols().Symbol(len(names)); e != api.ErrNone {
		t.Errorf("there are more symbols: %v", e)
	}
	builtins := names[2 : len(names)-10]
	if !slices.Equal(Names(), builtins) {
		t.Errorf("Names = %v", Names())
	}
	for i, name := range builtins {
		f, e := w.Function(w.symbol(name))
		x, _ := w.Heap().Get(f, 0)
		if e != api.OK || w.Heap().Kind(f) != heap.KindBuiltin || w.Heap().Len(f) != 1 || x != fixnum(i) || w.builtins[i].perform == nil {
			t.Errorf("the function of %s is %s, %v", name, w.show(f), e)
		}
	}
	truth := w.symbol("T")
	x, _ := w.Symbol(lisp, "NIL")
	value, _ := w.Value(heap.Nil)
	value2, _ := w.Value(truth)
	function, _ := w.Function(heap.Nil)
	if x != heap.Nil || value != heap.Nil || value2 != truth || function != heap.Unbound || w.Output() != "" || w.Parts().Counter != 0 {
		t.Errorf("NIL is %d with the value %d, T %d with %d", x, value, truth, value2)
	}
	fields := w.fields(truth)
	if len(fields) != 5 || fields[0] != fixnum(1) || w.show(fields[1]) != "\"T\"" || fields[3] != heap.Unbound || fields[4] != heap.Nil {
		t.Errorf("the object of T has %v", fields)
	}
}

// P20.1: the errors of New.
func TestNewErrors(t *testing.T) {
	for _, x := range []struct {
		limit, young int
		want         api.Errno
	}{{63, 10, api.ErrArg}, {api.MaxWords + 1, 10, api.ErrArg}, {1000, 0, api.ErrArg}, {1000, 1001, api.ErrArg}, {64, 1, api.ErrWords}, {1000, 10, api.ErrWords}, {2000, 10, api.OK}, {api.MaxWords, api.MaxWords, api.OK}} {
		w, e := New(x.limit, x.young)
		if e != x.want || (w == nil) != (e != api.OK) {
			t.Errorf("New(%d, %d) = %v; want %v", x.limit, x.young, e, x.want)
		}
	}
	w := newTester(t, 20000)
	used := w.Heap().Used()
	if _, e := New(used, 1); e != api.OK {
		t.Errorf("New with just enough words: %v", e)
	}
	if _, e := New(used-1, 1); e != api.ErrWords {
		t.Errorf("New with one word less: %v", e)
	}
}

// P20.1: arities, by the tables.
func TestArity(t *testing.T) {
	for name, want := range map[string][2]int{"CONS": {2, 2}, "LIST": {0, -1}, "LIST*": {1, -1}, "FLOOR": {1, 2}, "GETHASH": {2, 3}, "%ASET": {2, -1}, "AREF": {1, -1}, "APPLY": {2, -1}, "FUNCALL": {1, -1}, "TERPRI": {0, 0}, "GENSYM": {0, 1}, "FORMAT": {2, -1}, "-": {1, -1}, "+": {0, -1}, "SUBSEQ": {2, 3}, "MAKE-ARRAY": {1, 2}, "VALUES": {0, -1}} {
		least, most, e := Arity(name)
		if least != want[0] || most != want[1] || e != api.OK {
			t.Errorf("Arity(%s) = %d, %d, %v; want %v", name, least, most, e, want)
		}
	}
	for _, name := range []string{"", "car", "NEW", "T"} {
		if least, most, e := Arity(name); least != 0 || most != 0 || e != api.ErrNone {
			t.Errorf("Arity(%q) = %d, %d, %v", name, least, most, e)
		}
	}
	for _, name := range Names() { // each function says so itself
		least, most, _ := Arity(name)
		w := newTester(t, 20000)
		for n := range 6 {
			a := w.call(name, slices.Repeat([]heap.Word{heap.Nil}, n)...)
			isCount := a.Kind == AnswerFault && a.Fault.Type == programError && w.shows(a.Fault.Data) == w.show(w.symbol(name))
			if fits := n >= least && (most < 0 || n <= most); fits == isCount && name != "AREF" && name != "%ASET" && name != "APPLY" && name != "FUNCALL" {
				t.Errorf("%s with %d arguments: %s", name, n, w.told(a))
			}
		}
	}
}

// P20.1: symbols and their fields.
func TestSymbols(t *testing.T) {
	w := newTester(t, 20000)
	x, e := w.Symbol("CL-USER", "X")
	again, _ := w.Symbol(user, "X")
	car, _ := w.Symbol(user, "CAR")
	k, _ := w.Symbol(keyword, "K")
	if e != api.OK || x != again || car != w.symbol("CAR") {
		t.Errorf("Symbol = %d, %d, %v", x, again, e)
	}
	for _, c := range []struct {
		x    heap.Word
		want string
	}{{x, "COMMON-LISP-USER X"}, {car, "COMMON-LISP CAR"}, {k, "KEYWORD K"}, {heap.Nil, "COMMON-LISP NIL"}, {w.call("GENSYM").Values[0], " G0"}} {
		home, name, e := w.Name(c.x)
		if home+" "+name != c.want || e != api.OK {
			t.Errorf("Name = %q, %q, %v; want %s", home, name, e, c.want)
		}
	}
	value, _ := w.Value(x)
	function, _ := w.Function(x)
	kvalue, _ := w.Value(k)
	if value != heap.Unbound || function != heap.Unbound || kvalue != k {
		t.Errorf("a new symbol has %d and %d, a keyword %d", value, function, kvalue)
	}
	w.want("SetValue", w.SetValue(x, 40), api.OK)
	w.want("SetFunction", w.SetFunction(x, 48), api.OK)
	value, _ = w.Value(x)
	function, _ = w.Function(x)
	if value != 40 || function != 48 {
		t.Errorf("values that were set are %d and %d", value, function)
	}
	w.want("SetValue", w.SetValue(x, heap.Unbound), api.OK)
	w.want("SetFunction", w.SetFunction(x, heap.Unbound), api.OK)
	if value, _ = w.Value(x); value != heap.Unbound || w.told(w.Call(x, nil)) != "!UNDEFINED-FUNCTION x" {
		t.Errorf("a value that was taken away is %d", value)
	}
	long := strings.Repeat("a", api.MaxName+1)
	for _, c := range []struct {
		home, name string
		want       api.Errno
	}{{user, long, api.ErrSize}, {long, "A", api.ErrSize}, {"NOWHERE", "A", api.ErrNone}, {"", "A", api.ErrNone}} {
		if x, e := w.Symbol(c.home, c.name); x != 0 || e != c.want {
			t.Errorf("Symbol(%q, %q) = %d, %v; want %v", c.home, c.name, x, e, c.want)
		}
	}
}

// P20.1: errors of symbols, in their order.
func TestSymbolErrors(t *testing.T) {
	w := newTester(t, 20000)
	x, _ := w.Symbol(user, "X")
	k, _ := w.Symbol(keyword, "K")
	truth := w.symbol("T")
	cons := w.object(heap.KindCons, 0, 0)
	fake := w.object(heap.KindSymbol, fixnum(1), heap.Nil, heap.Nil, heap.Nil, heap.Nil)
	bytes, _ := w.Heap().Raw(heap.KindSymbol, "abc")
	const bad = heap.Word(7)
	for _, word := range []heap.Word{40, bad, cons, fake, bytes, 1<<40 | 3, heap.Unbound, w.object(heap.KindSymbol)} {
		home, name, e := w.Name(word)
		_, e2 := w.Value(word)
		_, e3 := w.Function(word)
		if home+name != "" || e != ErrNoSymbol || e2 != ErrNoSymbol || e3 != ErrNoSymbol || w.SetValue(word, bad) != ErrNoSymbol || w.SetFunction(word, bad) != ErrNoSymbol {
			t.Errorf("the word %d: %v, %v, %v", word, e, e2, e3)
		}
	}
	w.want("SetValue of X", w.SetValue(x, bad), heap.ErrWord)
	w.want("SetFunction of X", w.SetFunction(x, bad), heap.ErrWord)
	w.want("SetFunction of X", w.SetFunction(x, 1<<40|3), heap.ErrWord)
	for _, constant := range []heap.Word{heap.Nil, truth, k} {
		w.want("SetValue", w.SetValue(constant, 40), api.ErrArg)
		w.want("SetValue", w.SetValue(constant, bad), api.ErrArg)
		w.want("SetValue", w.SetValue(constant, heap.Unbound), api.ErrArg)
		w.want("SetFunction", w.SetFunction(constant, heap.Unbound), api.ErrArg)
		w.want("SetFunction", w.SetFunction(constant, bad), heap.ErrWord)
		w.want("SetFunction", w.SetFunction(constant, 40), api.OK)
	}
}

// P20.1: a table without room for symbols, and a heap without room: nothing has changed then.
func TestFull(t *testing.T) {
	w := newTester(t, 60000)
	for i := 0; w.free() > 1; i++ {
		w.Symbols().Intern(user, "FILL"+fixnumText(i))
	}
	text := w.Symbols().Text()
	f := read(t, "(A B)")
	if x, e := w.Build(f); x != 0 || e != api.ErrFull || w.Symbols().Text() != text {
		t.Errorf("Build of two new symbols: %v", e)
	}
	if _, e := w.Build(read(t, "(#:A . #:B)")); e != api.ErrFull || w.Symbols().Text() != text {
		t.Errorf("Build of two new symbols without a home: %v", e)
	}
	if _, e := w.Build(read(t, "(#:A #:A CAR NIL FILL1)")); e != api.OK {
		t.Errorf("Build of one new symbol: %v", e)
	}
	if x, e := w.Symbol(user, "C"); x != 0 || e != api.ErrFull {
		t.Errorf("Symbol of a new symbol: %v", e)
	}
	c := w.newText("C")
	for name, want := range map[string]string{"INTERN": "!PACKAGE-ERROR \"COMMON-LISP-USER\"", "MAKE-SYMBOL": "!PACKAGE-ERROR \"C\"", "GENSYM": "!PACKAGE-ERROR \"C\"", "FIND-SYMBOL": "nil nil"} {
		if got := w.told(w.call(name, c)); got != want {
			t.Errorf("%s: %s; want %s", name, got, want)
		}
	}
	if got := w.told(w.call("GENSYM")); got != "!PACKAGE-ERROR \"G\"" || w.Parts().Counter != 0 {
		t.Errorf("GENSYM: %s", got)
	}
	if got := w.told(w.call("INTERN", w.newText("FILL1"))); got != "limit 9" { // there is no symbol :INTERNAL
		t.Errorf("INTERN: %s", got)
	}
	if got := w.told(w.call("READ-FROM-STRING", c)); got != "!PARSE-ERROR \"C\"" {
		t.Errorf("READ-FROM-STRING: %s", got)
	}
	if e := w.Register("NEW", 0, 0, func([]heap.Word) Answer { return Answer{} }); e != api.ErrFull {
		t.Errorf("Register: %v", e)
	}
}

// leave fills the heap up to so many words.
func (w tester) leave(words int) {
	w.t.Helper()
	for {
		left := w.Heap().Limit() - w.Heap().Used() - words - 1
		if left < 0 {
			return
		}
		_, e := w.Heap().New(heap.KindBox, min(left, 1000))
		w.want("New", e, api.OK)
	}
}

// P20.1, P20.6: without room nothing is made, and what is done once more counts once.
func TestNoRoom(t *testing.T) {
	type attempt func(w tester) api.Errno
	ask := func(name string, args ...string) func(w tester) attempt {
		return func(w tester) attempt {
			var l []heap.Word
			for _, text := range args {
				l = append(l, w.newText(text))
			}
			w.Symbols().Intern(user, "FOUND")
			function := w.symbol(name)
			return func(w tester) api.Errno {
				a := w.Call(function, l)
				if a.Code != api.OK && (a.Kind != AnswerLimit || len(a.Values) > 0) {
					t.Errorf("%s: %+v", name, a)
				}
				return a.Code
			}
		}
	}
	build := func(text string) func(w tester) attempt {
		f := read(t, text)
		return func(w tester) attempt {
			return func(w tester) api.Errno { x, e := w.Build(f); w.zero(x, e); return e }
		}
	}
	for what, x := range map[string]struct {
		words   int
		attempt func(w tester) attempt
	}{
		"Build of a list": {3*3 + 2 + 2, build("(1 \"a\" 2.0)")}, "Build of a symbol": {6 + 2, build("#:NEW")}, "Build of a vector": {3, build("#(1 2)")}, "Build of an array": {3 + 3 + 3, build("#2A((1 2))")}, "Build of a number": {3 + 2, build("#C(1 1/2)")}, "INTERN": {6 + 3, ask("INTERN", "SOMETHING")}, "INTERN of CAR": {6 + 3, ask("INTERN", "CAR")}, "MAKE-SYMBOL": {6 + 3, ask("MAKE-SYMBOL", "SOMETHING")}, "FIND-SYMBOL": {6 + 2 + 6 + 2, ask("FIND-SYMBOL", "FOUND")}, "GENSYM": {6 + 2, ask("GENSYM")}, "CONCAT": {3, ask("CONCAT", "abcdefgh", "i")}, "LIST": {6, ask("LIST", "", "")}, "READ-FROM-STRING": {6, ask("READ-FROM-STRING", "(1 2)")}, "VECTOR": {3, ask("VECTOR", "", "")}, "SYMBOL-NAME of NIL": {3, func(w tester) attempt {
			return func(w tester) api.Errno {
				return w.call("CONCAT", w.fields(heap.Nil)[1], w.fields(heap.Nil)[1], w.fields(heap.Nil)[1]).Code
			}
		}},
		"Symbol": {6 + 2, func(w tester) attempt {
			return func(w tester) api.Errno { x, e := w.Symbol(keyword, "ABCDEFGH"); w.zero(x, e); return e }
		}},
		"a known symbol": {6 + 2, func(w tester) attempt {
			w.Symbols().Intern(user, "FOUND")
			return func(w tester) api.Errno { x, e := w.Symbol(user, "FOUND"); w.zero(x, e); return e }
		}},
		"Build of a known symbol": {3 + 6 + 2, func(w tester) attempt {
			w.Symbols().Intern(user, "FOUND")
			return build("(FOUND . FOUND)")(w)
		}},
		"Register": {6 + 2 + 2, func(w tester) attempt {
			return func(w tester) api.Errno {
				return w.Register("NEW", 0, 0, func([]heap.Word) Answer { return Answer{} })
			}
		}},
	} {
		for room := range 30 {
			w := newTester(t, 4000)
			try := x.attempt(w)
			w.leave(room)
			text := w.Symbols().Text()
			e := try(w)
			if want := map[bool]api.Errno{true: api.OK, false: api.ErrWords}[room >= x.words]; e != want {
				t.Errorf("%s with %d words: %v", what, room, e)
			}
			if e != api.OK && (w.Symbols().Text() != text || w.Parts().Counter != 0) {
				t.Errorf("%s with %d words has changed packages", what, room)
			}
		}
	}
}

// zero reports a word that stands beside an error.
func (w tester) zero(x heap.Word, e api.Errno) {
	w.t.Helper()
	if e != api.OK && x != 0 {
		w.t.Errorf("a word beside %v", e)
	}
}

// P20.1: objects that no heap can have.
func TestTooLarge(t *testing.T) {
	w := newTester(t, api.MaxWords)
	a := w.call("MAKE-ARRAY", fixnum(maxElements))
	if a.Kind != AnswerValues || w.Heap().Len(a.Values[0]) != maxElements {
		t.Errorf("MAKE-ARRAY: %v", a.Kind)
	}
	w = newTester(t, api.MaxWords)
	many := w.list(slices.Repeat([]heap.Word{heap.Nil}, maxElements+1), heap.Nil)
	if got := w.told(w.call("APPLY", w.symbol("VECTOR"), many)); got != "limit 11" {
		t.Errorf("VECTOR: %s", got)
	}
	w = newTester(t, api.MaxWords)
	text := w.newText(strings.Repeat("a", 70000))
	if got := w.told(w.call("CONCAT", text, text)); got != "limit 11" {
		t.Errorf("CONCAT: %s", got)
	}
}

// P20.1: the output has an end.
func TestOutput(t *testing.T) {
	w := newTester(t, 20000)
	w.want("Print", w.Print(strings.Repeat("a", api.MaxOutput-3)), api.OK)
	w.want("Print", w.Print("bcde"), api.ErrLarge)
	for text, want := range map[string]string{"(WRITE-STRING \"abcd\")": "limit 14", "(FORMAT NIL \"x\")": "\"x\"", "(PRIN1-TO-STRING abcd)": "\"abcd\""} {
		if got := w.perform(text); got != want {
			t.Errorf("%s: %s; want %s", text, got, want)
		}
	}
	if got := w.perform("(PRINT 5)"); got != "5" || !strings.HasSuffix(w.Output(), "a\n5 ") {
		t.Errorf("PRINT: %s", got)
	}
	for _, text := range []string{"(TERPRI)", "(PRIN1 1)", "(PRINC 1)", "(PRINT 1)", "(WRITE-STRING \"a\")", "(FORMAT T \"x\")"} {
		if got := w.perform(text); got != "limit 14" {
			t.Errorf("%s: %s", text, got)
		}
	}
	w.want("Print of nothing", w.Print(""), api.OK)
}

// P20.1: printing and reading.
func TestPrinting(t *testing.T) {
	for text, want := range map[string][2]string{
		"(PRIN1 \"a\\\"b\")": {"\"a\\\"b\"", "\"a\\\"b\""}, "(PRINC \"a\\\"b\")": {"\"a\\\"b\"", "a\"b"}, "(PRINT CAR)": {"car", "\ncar "}, "(PRINT \"a\")": {"\"a\"", "\n\"a\" "}, "(PRIN1 (X #1=(1) #1#))": {"(x #0=(1) #0#)", "(x #0=(1) #0#)"}, "(PRINC #\\a)": {"#\\a", "a"}, "(TERPRI)": {"nil", "\n"}, "(WRITE-STRING \"a\\\"é\")": {"\"a\\\"é\"", "a\"é"}, "(WRITE-STRING A)": {"!TYPE-ERROR a string", ""}, "(PRIN1 :K)": {":k", ":k"}, "(PRIN1 #:X)": {"#:x", "#:x"},
		"(PRIN1-TO-STRING \"a\")": {"\"\\\"a\\\"\"", ""}, "(PRINC-TO-STRING \"a\")": {"\"a\"", ""}, "(PRINC-TO-STRING (A \"b\"))": {"\"(a b)\"", ""}, "(READ-FROM-STRING \"(car . x)\")": {"(car . x)", ""}, "(READ-FROM-STRING \"#1=(1 . #1#)\")": {"#0=(1 . #0#)", ""}, "(READ-FROM-STRING \"(\")": {"!PARSE-ERROR \"(\"", ""}, "(READ-FROM-STRING \"\")": {"!PARSE-ERROR \"\"", ""}, "(READ-FROM-STRING \"1 2\")": {"!PARSE-ERROR \"1 2\"", ""}, "(READ-FROM-STRING \"q:x\")": {"!PARSE-ERROR \"q:x\"", ""}, "(READ-FROM-STRING \"`x\")": {"!PARSE-ERROR \"`x\"", ""}, "(READ-FROM-STRING 5)": {"!TYPE-ERROR 5 string", ""},
		"(FORMAT NIL \"~A ~S\" \"a\" \"b\")": {"\"a \\\"b\\\"\"", ""}, "(FORMAT T \"~D!~%\" 5)": {"nil", "5!\n"}, "(FORMAT NIL \"~D\")": {"!SIMPLE-ERROR \"~D\"", ""}, "(FORMAT NIL \"~Q\" 1)": {"!SIMPLE-ERROR \"~Q\"", ""}, "(FORMAT 5 \"a\")": {"nil", "a"}, "(FORMAT NIL 5)": {"!TYPE-ERROR 5 string", ""}, "(FORMAT NIL)": {"!PROGRAM-ERROR format", ""},
	} {
		w := newTester(t, 20000)
		if got := w.perform(text); got != want[0] || w.Output() != want[1] {
			t.Errorf("%s: %s, printed %q; want %s", text, got, w.Output(), want)
		}
	}
	w := newTester(t, 60000)
	text := strings.Repeat("a", 60000)
	long := w.list([]heap.Word{w.newText(text), w.newText(text)}, heap.Nil)
	for _, name := range []string{"PRIN1", "PRINC", "PRINT", "PRIN1-TO-STRING"} {
		if a := w.call(name, long); a.Kind != AnswerFault || a.Fault.Type != simpleError || a.Fault.Data[0] != long || w.Output() != "" {
			t.Errorf("%s of a long text: %v", name, a.Kind)
		}
	}
	broken, _ := w.Heap().Raw(heap.KindString, "\xff") // which has no form
	for name, want := range map[string]string{"PRIN1-TO-STRING": "\"%::object\"", "TYPEP": "t", "FORMAT": "\"%::object\""} {
		args := map[string][]heap.Word{"PRIN1-TO-STRING": {broken}, "TYPEP": {broken, w.symbol("T")}, "FORMAT": {heap.Nil, w.newText("~S"), broken}}[name]
		if got := w.told(w.call(name, args...)); got != want {
			t.Errorf("%s of what has no form: %s", name, got)
		}
	}
	for _, x := range []heap.Word{broken, w.circle(3)} {
		if a := w.call("PRIN1", x); a.Kind != AnswerValues || a.Values[0] != x {
			t.Errorf("PRIN1: %v", a)
		}
	}
}

// P20.1: hash tables.
func TestTables(t *testing.T) {
	w := newTester(t, 20000)
	for name, test := range map[string]int{"EQ": table.Eq, "EQL": table.EqlTest, "EQUAL": table.EqualTest, "EQUALP": table.EqualpTest} {
		a := w.call("MAKE-HASH-TABLE", w.symbol(name))
		got, weak, e := table.Test(w.Heap(), a.Values[0])
		if got != test || weak || e != api.OK {
			t.Errorf("MAKE-HASH-TABLE of %s has the test %d, %v", name, got, e)
		}
	}
	other, _ := w.Symbol(user, "EQUAL2")
	if got := w.told(w.call("MAKE-HASH-TABLE", other)); got != "!TYPE-ERROR equal2 function" {
		t.Error(got)
	}
	h := w.call("MAKE-HASH-TABLE", w.symbol("EQUAL")).Values[0]
	k, k2 := w.newText("k"), w.newText("k")
	one := fixnum(1)
	for _, x := range []struct {
		name string
		args []heap.Word
		want string
	}{
		{"GETHASH", []heap.Word{k, h}, "nil nil"}, {"GETHASH", []heap.Word{k, h, one}, "1 nil"}, {"%PUTHASH", []heap.Word{k, h, fixnum(5)}, "5"}, {"GETHASH", []heap.Word{k2, h, one}, "5 t"}, {"%PUTHASH", []heap.Word{one, h, heap.Nil}, "nil"}, {"GETHASH", []heap.Word{one, h, one}, "nil t"}, {"HASH-TABLE-COUNT", []heap.Word{h}, "2"}, {"HASH-KEYS", []heap.Word{h}, "(\"k\" 1)"}, {"REMHASH", []heap.Word{k2, h}, "t"}, {"REMHASH", []heap.Word{k2, h}, "nil"}, {"%PUTHASH", []heap.Word{k, h, one}, "1"}, {"HASH-KEYS", []heap.Word{h}, "(1 \"k\")"}, {"CLRHASH", []heap.Word{h}, "%::table"}, {"HASH-TABLE-COUNT", []heap.Word{h}, "0"}, {"HASH-KEYS", []heap.Word{h}, "nil"},
		{"GETHASH", []heap.Word{k, one}, "!TYPE-ERROR 1 hash-table"}, {"GETHASH", []heap.Word{k}, "!PROGRAM-ERROR gethash"}, {"%PUTHASH", []heap.Word{h, k, one}, "!TYPE-ERROR \"k\" hash-table"}, {"REMHASH", []heap.Word{k, heap.Nil}, "!TYPE-ERROR nil hash-table"}, {"CLRHASH", []heap.Word{k}, "!TYPE-ERROR \"k\" hash-table"}, {"MAKE-HASH-TABLE", []heap.Word{one}, "!TYPE-ERROR 1 symbol"}, {"HASH-TABLE-COUNT", nil, "!PROGRAM-ERROR hash-table-count"},
	} {
		if got := w.told(w.call(x.name, x.args...)); got != x.want {
			t.Errorf("%s: %s; want %s", x.name, got, x.want)
		}
	}
}

// P20.1: calls of functions of other kinds, and of words that are none.
func TestCall(t *testing.T) {
	w := newTester(t, 20000)
	closure, code := w.object(heap.KindClosure, 0, heap.Nil), w.object(heap.KindCode, 0)
	x, _ := w.Symbol(user, "X")
	args := []heap.Word{fixnum(5), heap.Unbound}
	next := func(what string, a Answer, function heap.Word, l []heap.Word) {
		t.Helper()
		if a.Kind != AnswerNext || a.Function != function || !slices.Equal(a.Values, l) {
			t.Errorf("%s: %s", what, w.told(a))
		}
	}
	for _, f := range []heap.Word{closure, code} {
		next("a closure", w.Call(f, args), f, args)
		w.SetFunction(x, f)
		next("a symbol", w.Call(x, args), f, args)
		next("FUNCALL", w.call("FUNCALL", f, args[0]), f, args[:1])
		next("FUNCALL of a symbol", w.call("FUNCALL", x), f, nil)
		next("APPLY", w.call("APPLY", x, args[0], w.list(args, heap.Nil)), f, []heap.Word{args[0], args[0], args[1]})
		next("FUNCALL of FUNCALL", w.call("FUNCALL", w.symbol("FUNCALL"), x, args[0]), f, args[:1])
		if a := w.call("%FSET", w.symbol("CAR"), x); a.Values[0] != f {
			t.Errorf("%%FSET: %s", w.told(a))
		}
		next("CAR", w.call("CAR"), f, nil)
	}
	w.SetFunction(x, fixnum(7))
	for _, c := range []struct {
		f    heap.Word
		want string
	}{{fixnum(5), "!TYPE-ERROR 5 function"}, {heap.Unbound, "!TYPE-ERROR %::unbound function"}, {w.list(args, heap.Nil), "!TYPE-ERROR (5 %::unbound) function"}, {x, "!TYPE-ERROR 7 function"}, {heap.Nil, "!UNDEFINED-FUNCTION nil"}, {w.object(heap.KindBuiltin, fixnum(-1)), "!TYPE-ERROR %::builtin function"}, {w.object(heap.KindBuiltin, fixnum(9999)), "!TYPE-ERROR %::builtin function"}, {w.object(heap.KindBuiltin, fixnum(len(Names()))), "!TYPE-ERROR %::builtin function"}, {w.object(heap.KindBuiltin), "!TYPE-ERROR %::builtin function"}, {w.object(heap.KindBuiltin, heap.Nil), "!TYPE-ERROR %::builtin function"}} {
		if got := w.told(w.Call(c.f, nil)); got != c.want {
			t.Errorf("Call: %s; want %s", got, c.want)
		}
	}
	next("FUNCALL of a symbol with another word", w.call("FUNCALL", x, args[0]), fixnum(7), args[:1])
	w.SetFunction(x, x) // a function of a function would have no end
	if got := w.told(w.Call(x, nil)); got != "!TYPE-ERROR x function" {
		t.Errorf("Call: %s", got)
	}
	list := w.symbol("LIST")
	for _, bad := range []heap.Word{7, 4, 1<<40 | 3, 59} {
		if a := w.Call(bad, nil); a.Kind != AnswerLimit || a.Code != heap.ErrWord {
			t.Errorf("Call of a bad word: %s", w.told(a))
		}
		if a := w.Call(list, []heap.Word{0, bad}); a.Kind != AnswerLimit || a.Code != heap.ErrWord {
			t.Errorf("Call with a bad word: %s", w.told(a))
		}
		if a := w.Call(fixnum(5), []heap.Word{bad}); a.Kind != AnswerLimit || a.Code != heap.ErrWord {
			t.Errorf("Call with a bad word: %s", w.told(a))
		}
	}
}

// P20.1: further builtin functions.
func TestRegister(t *testing.T) {
	w := newTester(t, 20000)
	var got []heap.Word
	f := func(l []heap.Word) Answer {
		got = slices.Clone(l)
		for i := range l {
			l[i] = 0
		}
		return Answer{Kind: AnswerFault, Fault: Fault{Type: "ODD", Data: []heap.Word{fixnum(len(got))}}}
	}
	w.want("Register", w.Register("FIRST", 1, 2, f), api.OK)
	w.want("Register", w.Register("SECOND", 0, -1, f), api.OK)
	w.want("Register", w.Register("NEVER", 2, 1, f), api.OK)
	function, _ := w.Function(w.symbol("SECOND"))
	index, _ := w.Heap().Get(function, 0)
	if _, status, _ := w.Symbols().Find(user, "SECOND"); status != symbols.Inherited || index != fixnum(len(Names())+1) {
		t.Errorf("SECOND has the status %d and the index %d", status, index)
	}
	args := []heap.Word{fixnum(1), fixnum(2), fixnum(3)}
	for _, x := range []struct {
		name string
		n    int
		want string
	}{{"FIRST", 0, "!PROGRAM-ERROR first"}, {"FIRST", 1, "!ODD 1"}, {"FIRST", 2, "!ODD 2"}, {"FIRST", 3, "!PROGRAM-ERROR first"}, {"SECOND", 0, "!ODD 0"}, {"SECOND", 3, "!ODD 3"}, {"NEVER", 1, "!PROGRAM-ERROR never"}, {"NEVER", 2, "!PROGRAM-ERROR never"}} {
		got = nil
		if told := w.told(w.call(x.name, args[:x.n]...)); told != x.want || strings.HasPrefix(x.want, "!ODD") && !slices.Equal(got, args[:x.n]) {
			t.Errorf("%s: %s with %v; want %s", x.name, told, got, x.want)
		}
	}
	if args[0] != fixnum(1) {
		t.Error("a registered function has changed the arguments")
	}
	w.Symbols().Intern(user, "CLASH")
	text, used := w.Symbols().Text(), w.Heap().Used()
	for _, x := range []struct {
		name  string
		least int
		f     func(l []heap.Word) Answer
		want  api.Errno
	}{{"CAR", 0, f, api.ErrTwice}, {"FIRST", 0, f, api.ErrTwice}, {"CAR", -1, nil, api.ErrTwice}, {"NEW", 0, nil, api.ErrArg}, {"NEW", -1, f, api.ErrArg}, {strings.Repeat("a", 61), -1, f, api.ErrArg}, {strings.Repeat("a", 61), 0, f, api.ErrSize}, {"CLASH", 0, f, symbols.ErrClash}} {
		if e := w.Register(x.name, x.least, 5, x.f); e != x.want || w.Symbols().Text() != text || w.Heap().Used() != used {
			t.Errorf("Register(%q, %d) = %v; want %v", x.name, x.least, e, x.want)
		}
	}
	w.want("Register of a type", w.Register("SEQUENCE", 0, 0, f), api.OK)
	w.want("Register", w.Register("PANICS", 0, 0, func([]heap.Word) Answer { panic("out") }), api.OK)
	if a := w.call("PANICS"); a.Kind != AnswerLimit {
		t.Errorf("a registered function that panics: %v", a)
	}
	w.want("Register", w.Register("ODD", 0, 0, func([]heap.Word) Answer { return Answer{Kind: -1, Function: function} }), api.OK)
	if a := w.call("ODD"); a.Kind != AnswerLimit {
		t.Errorf("a registered function with an odd answer: %v", a)
	}
	w.want("Register", w.Register("CALLS", 0, -1, func(l []heap.Word) Answer { return w.call("+", l...) }), api.OK)
	if got := w.told(w.call("APPLY", w.symbol("CALLS"), w.list(args, heap.Nil))); got != "6" {
		t.Errorf("a registered function that calls: %s", got)
	}
}

// P20.1: values that layers above keep.
func TestExtra(t *testing.T) {
	w := newTester(t, 20000)
	if w.Extra("a") != nil {
		t.Error("there is an extra")
	}
	w.SetExtra("a", 5)
	w.SetExtra("b", []int{1})
	w.SetExtra("", "x")
	if w.Extra("a") != 5 || !reflect.DeepEqual(w.Extra("b"), []int{1}) || w.Extra("") != "x" {
		t.Error("extras are others")
	}
	w.SetExtra("a", nil)
	if w.Extra("a") != nil {
		t.Error("an extra is there still")
	}
}

// P20.1: no world.
func TestNoWorld(t *testing.T) {
	for _, w := range []*World{nil, {}} {
		x, e := w.Symbol(lisp, "NIL")
		home, name, e2 := w.Name(heap.Nil)
		value, e3 := w.Value(heap.Nil)
		function, e4 := w.Function(heap.Nil)
		built, e5 := w.Build(forms.Nil())
		f, e6 := w.Show(heap.Nil)
		a := w.Call(heap.Nil, nil)
		for i, e := range []api.Errno{e, e2, e3, e4, e5, e6, a.Code, w.SetValue(heap.Nil, 0), w.SetFunction(heap.Nil, 0), w.Print(""), w.Register("A", 0, 0, func([]heap.Word) Answer { return Answer{} })} {
			if e != api.ErrArg {
				t.Errorf("the call %d: %v", i, e)
			}
		}
		w.SetExtra("a", 5)
		if a.Kind != AnswerLimit || w.Heap() != nil || w.Symbols() != nil || w.Output() != "" || w.Extra("a") != nil || !reflect.DeepEqual(w.Parts(), Parts{}) || x != 0 || home+name != "" || value != 0 || function != 0 || built != 0 || f.Kind != 0 {
			t.Error("no world has something")
		}
	}
}

// P20.1: words that others have made, in all places.
func TestAnyWords(t *testing.T) {
	for seed := range int64(25) {
		r := rand.New(rand.NewSource(seed))
		w := newTester(t, 60000)
		words := []heap.Word{heap.Nil, heap.Unbound, fixnum(0), fixnum(-3), fixnum(2), fixnum(70000), character('a'), 7, 4, 1<<40 | 3, w.symbol("CAR"), w.symbol("EQUAL"), w.circle(3)}
		for kind := 1; kind <= heap.KindLast; kind++ {
			raw, _ := w.Heap().Raw(kind, []string{"", "ab", "1", "\xff\xfe"}[r.Intn(4)])
			words = append(words, raw)
			for range 2 {
				x := w.object(kind, slices.Repeat([]heap.Word{heap.Nil}, r.Intn(6))...)
				words = append(words, x)
			}
		}
		for _, x := range words {
			for i := range w.Heap().Len(x) {
				if x != heap.Nil && w.Heap().Kind(x) != heap.KindSymbol {
					w.Heap().Set(x, i, words[r.Intn(len(words))])
				}
			}
		}
		for range 1500 {
			var args []heap.Word
			for range r.Intn(4) {
				args = append(args, words[r.Intn(len(words))])
			}
			name := Names()[r.Intn(len(Names()))]
			a := w.call(name, args...)
			if a.Kind < AnswerValues || a.Kind > AnswerLimit || a.Kind == AnswerLimit && a.Code == api.OK {
				t.Fatalf("%s of %v: %v", name, args, a)
			}
			w.Show(words[r.Intn(len(words))])
		}
	}
}

// P1: no function panics in a world whose objects were taken away.
func TestEmptied(t *testing.T) {
	w := newTester(t, 20000)
	w.build("(X \"a\" #1=(1 . #1#) #:Y)")
	w.want("Keep", w.Heap().Keep(nil, nil), api.OK)
	for _, root := range w.Heap().Roots()[:20] {
		w.Heap().Drop(root)
	}
	for _, name := range Names() {
		f, _ := w.World.Symbol(lisp, name)
		for n := range 4 {
			w.Call(f, slices.Repeat([]heap.Word{heap.Nil}, n))
			w.Call(f, slices.Repeat([]heap.Word{fixnum(n)}, n))
		}
		w.Name(f)
		w.Value(f)
		w.SetFunction(f, heap.Nil)
	}
	w.Build(read(t, "(X \"a\" #:Y T NIL CAR NEW)"))
	w.Show(heap.Nil)
	w.Parts()
	w.Register("NEW", 0, 0, func([]heap.Word) Answer { return Answer{} })
}
