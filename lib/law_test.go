package lib

import (
	"math/rand"
	"slices"
	"strings"
	"testing"

	"commonform/api"
	"commonform/forms"
	"commonform/heap"
	"commonform/number"
)

// P20.2: Show of Build is Normal of the form, and Build of it another object with the same form.
func TestForms(t *testing.T) {
	labels := 0
	eachForm(3000, func(r *rand.Rand, made api.Form) {
		w := newTester(t, 20000)
		x, e := w.Build(made)
		f, e2 := w.Show(x)
		want, e3 := forms.Normal(made)
		if e3 == api.ErrSize {
			return
		}
		if e != api.OK || e2 != api.OK || !forms.Equal(f, want) {
			t.Fatalf("Show of Build: %v, %v\n%v\n%v", e, e2, f, want)
		}
		if hasLabels(f) {
			labels++
		}
		y, _ := w.Build(f)
		again, _ := w.Show(y)
		if !forms.Equal(again, f) || x == y && w.hasFields(x) && x != heap.Nil && w.Heap().Kind(x) != heap.KindSymbol {
			t.Fatalf("Build of Show: %v; want %v", again, f)
		}
	})
	if labels < 300 {
		t.Errorf("only %d forms have labels", labels)
	}
}

// P20.1: objects that are made of forms.
func TestBuild(t *testing.T) {
	w := newTester(t, 20000)
	for text, kind := range map[string]int{"5": 0, "1152921504606846976": heap.KindInt, "-1152921504606846976": 0, "1/2": heap.KindRatio, "1.0": heap.KindSingle, "1d0": heap.KindDouble, "#C(1 2)": heap.KindComplex, "#\\a": 0, "\"a\"": heap.KindString, "#*1": heap.KindBits, "(1)": heap.KindCons, "#(1)": heap.KindVector, "#2A((1))": heap.KindArray, "X": heap.KindSymbol, "#:X": heap.KindSymbol} {
		if x := w.build(text); w.Heap().Kind(x) != kind {
			t.Errorf("%s has the kind %d; want %d", text, w.Heap().Kind(x), kind)
		}
	}
	bytes := map[string]string{"1/2": "1/2", "1.0": "3f800000", "1d0": "3ff0000000000000", "\"hé\"": "hé", "#*101": "101", "-1152921504606846977": "-1152921504606846977"}
	for text, want := range bytes {
		if got := w.text(w.build(text)); got != want {
			t.Errorf("%s has the bytes %q; want %q", text, got, want)
		}
	}
	for text, want := range map[string]string{"#C(1 1/2)": "1 1/2", "(1 . 2)": "1 2", "#(1 x)": "1 x", "#2A((1 2) (3 4))": "#(2 2) #(1 2 3 4)", "#0A5": "#() #(5)"} {
		if got := w.shows(w.fields(w.build(text))); got != want {
			t.Errorf("%s has the fields %s; want %s", text, got, want)
		}
	}
	l := w.all(w.build("(#:A #:A #:B A A #1=\"x\" #1# \"x\" 1.0 1.0 #2=1.0 #2#)"))
	for i, pair := range [][2]int{{0, 1}, {3, 4}, {5, 6}, {10, 11}} {
		if l[pair[0]] != l[pair[1]] {
			t.Errorf("the pair %d is not the same object", i)
		}
	}
	for i, pair := range [][2]int{{0, 2}, {0, 3}, {5, 7}, {8, 9}} {
		if l[pair[0]] == l[pair[1]] {
			t.Errorf("the pair %d is the same object", i)
		}
	}
	other := w.build("#:A")
	if other == l[0] {
		t.Error("a symbol without a home is the same as in another form")
	}
	loop := w.build("#1=(a . #1#)")
	if w.get(loop, 1) != loop {
		t.Error("a circle is none")
	}
}

// P20.1: the errors of Build, in their order, with which nothing has changed.
func TestBuildErrors(t *testing.T) {
	long := strings.Repeat("a", api.MaxName+1)
	symbol := forms.Symbol
	text := func(n int) api.Form { return api.Form{Kind: api.FormString, Text: strings.Repeat("a", n)} }
	for i, x := range []struct {
		f    api.Form
		want api.Errno
	}{
		{api.Form{}, api.ErrForm}, {api.Form{Kind: api.FormRef, Text: "1"}, forms.ErrLabel}, {forms.List([]api.Form{symbol(user, long), {}}), api.ErrForm}, {symbol(user, long), api.ErrSize}, {symbol("", long), api.ErrSize}, {symbol("NOWHERE", long), api.ErrSize}, {symbol("NOWHERE", "A"), api.ErrNone}, {symbol(long, "A"), api.ErrSize}, {forms.List([]api.Form{symbol("NOWHERE", "A"), symbol(user, long)}), api.ErrNone}, {forms.List([]api.Form{symbol(user, long), symbol("NOWHERE", "A")}), api.ErrSize},
		{forms.List([]api.Form{symbol(user, "NEW"), text(60000), text(60000), text(60000)}), api.ErrWords}, {forms.List([]api.Form{symbol("NOWHERE", "A"), text(60000), text(60000), text(60000)}), api.ErrNone}, {text(131073), api.ErrWords}, {text(131072), api.ErrWords}, {symbol("CL-USER", strings.Repeat("a", api.MaxName)), api.OK},
	} {
		w := newTester(t, 17000)
		before, used := w.Symbols().Text(), w.Heap().Used()
		y, e := w.Build(x.f)
		if e != x.want || e != api.OK && (y != 0 || w.Symbols().Text() != before || w.Heap().Used() != used) {
			t.Errorf("Build of the form %d = %d, %v; want %v", i, y, e, x.want)
		}
	}
	w := newTester(t, api.MaxWords)
	if _, e := w.Build(text(131073)); e != api.ErrWords {
		t.Errorf("Build of a text that no object has: %v", e)
	}
	if _, e := w.Build(text(131072)); e != api.OK {
		t.Errorf("Build of the longest text: %v", e)
	}
	same := forms.List([]api.Form{symbol("CL", "NEW"), symbol(lisp, "NEW"), symbol("", "U"), symbol("", "U")})
	need := symbolSize("NEW") + symbolSize("U") + 4*consSize
	for room := need - 1; room <= need; room++ {
		w := newTester(t, 10000)
		w.Heap().Raw(heap.KindString, strings.Repeat("a", 8*(10000-w.Heap().Used()-room-1)))
		if _, e := w.Build(same); (e == api.OK) != (room == need) {
			t.Errorf("Build in %d words: %v", room, e)
		}
	}
}

// P20.1: what Show tells of objects without forms, and of those whose forms are too large.
func TestShow(t *testing.T) {
	w := newTester(t, api.MaxWords)
	for kind, want := range map[int]string{heap.KindTable: "TABLE", heap.KindEntry: "ENTRY", heap.KindClosure: "CLOSURE", heap.KindCode: "CLOSURE", heap.KindBuiltin: "BUILTIN", heap.KindClass: "CLASS", heap.KindInstance: "INSTANCE", heap.KindGeneric: "GENERIC", heap.KindMethod: "METHOD", heap.KindWeak: "WEAK", heap.KindPackage: "PACKAGE", heap.KindBox: "BOX", heap.KindEphemeron: "EPHEMERON", 26: "OBJECT", 31: "OBJECT", heap.KindSymbol: "OBJECT"} {
		for _, x := range []heap.Word{w.object(kind), w.object(kind, heap.Nil, heap.Nil)} {
			f, e := w.Show(w.list([]heap.Word{x, x}, heap.Nil))
			if e != api.OK || !forms.Equal(f, forms.List([]api.Form{forms.Symbol("%", want), forms.Symbol("%", want)})) {
				t.Errorf("an object of the kind %d is shown as %v, %v", kind, f, e)
			}
		}
	}
	if f, e := w.Show(heap.Unbound); e != api.OK || !forms.Equal(f, forms.Symbol("%", "UNBOUND")) {
		t.Errorf("Unbound is shown as %v, %v", f, e)
	}
	for _, bad := range []heap.Word{7, 4, 1<<40 | 3, 59} {
		if f, e := w.Show(bad); f.Kind != 0 || e != heap.ErrWord {
			t.Errorf("Show of a bad word: %v", e)
		}
	}
	list := func(n int) heap.Word { return w.list(slices.Repeat([]heap.Word{fixnum(1)}, n), heap.Nil) }
	nested := func(n int) heap.Word {
		x := fixnum(1)
		for range n {
			x = w.vector([]heap.Word{x})
		}
		return x
	}
	raw := func(kind int, bytes string) heap.Word { x, _ := w.Heap().Raw(kind, bytes); return x }
	wide := nested(1)
	for range 30 {
		wide = w.list([]heap.Word{wide, wide}, heap.Nil)
	}
	zero, two := w.vector([]heap.Word{fixnum(0)}), w.vector([]heap.Word{fixnum(2), fixnum(1)})
	for i, x := range []struct {
		x    heap.Word
		want api.Errno
	}{
		{list(api.MaxForm - 2), api.OK}, {list(api.MaxForm - 1), api.ErrSize}, {list(8000), api.ErrSize}, {nested(api.MaxDepth - 1), api.OK}, {nested(api.MaxDepth), api.ErrSize}, {nested(300), api.ErrSize}, {wide, api.OK}, {w.vector(slices.Repeat([]heap.Word{fixnum(1)}, 1999)), api.OK}, {w.vector(slices.Repeat([]heap.Word{fixnum(1)}, 2000)), api.ErrSize}, {w.circle(1000), api.OK},
		{raw(heap.KindString, "\xff"), api.ErrSize}, {raw(heap.KindBits, "2"), api.ErrSize}, {raw(heap.KindInt, "x"), api.ErrSize}, {raw(heap.KindInt, "5"), api.OK}, {raw(heap.KindRatio, "2/4"), api.ErrSize}, {w.object(heap.KindInt), api.ErrSize}, {raw(heap.KindCons, "ab"), api.ErrSize}, {w.object(heap.KindCons, 0), api.ErrSize}, {w.object(heap.KindCons, 0, 0, 0), api.ErrSize}, {raw(heap.KindVector, "ab"), api.ErrSize}, {w.object(heap.KindString, 0), api.ErrSize}, {w.object(heap.KindBits), api.ErrSize}, {w.object(heap.KindComplex, 0), api.ErrSize}, {w.object(heap.KindComplex, 0, heap.Nil), api.ErrSize}, {w.object(heap.KindComplex, 0, 0), api.ErrSize}, {w.object(heap.KindComplex, 0, 8), api.OK},
		{w.object(heap.KindArray, two, two), api.OK}, {w.object(heap.KindArray, zero, zero), api.ErrSize}, {w.object(heap.KindArray, two, zero), api.ErrSize}, {w.object(heap.KindArray, two), api.ErrSize}, {w.object(heap.KindArray, 0, two), api.ErrSize}, {w.object(heap.KindArray, w.vector([]heap.Word{heap.Nil, 0}), w.vector(nil)), api.ErrSize}, {raw(heap.KindArray, "2 1"), api.ErrSize},
	} {
		if f, e := w.Show(x.x); e != x.want || e != api.OK && f.Kind != 0 || e == api.OK && forms.Check(f) != api.OK {
			t.Errorf("Show of the object %d: %v; want %v", i, e, x.want)
		}
	}
	self := w.object(heap.KindComplex, 0, 0)
	w.Heap().Set(self, 1, self)
	if _, e := w.Show(self); e != api.ErrSize {
		t.Errorf("Show of a number that is its own part: %v", e)
	}
}

// P20.3: what Keep moves is told as before.
func TestCollections(t *testing.T) {
	eachForm(60, func(r *rand.Rand, made api.Form) {
		w := newTester(t, 30000)
		x, e := w.Build(made)
		if e != api.OK {
			return
		}
		s, _ := w.Symbol(user, "HELD")
		w.SetValue(s, x)
		h := w.call("MAKE-HASH-TABLE", w.symbol("EQ")).Values[0]
		w.call("%PUTHASH", x, h, fixnum(5))
		calls := []string{"LIST", "EQUAL", "CONS", "TYPEP", "PRIN1-TO-STRING", "SYMBOL-NAME", "CAR", "LENGTH", "+", "APPEND"}
		tell := func(x, h heap.Word) string {
			held, _ := w.Symbol(user, "HELD")
			value, _ := w.Value(held)
			var all []string
			for _, name := range calls {
				all = append(all, w.told(w.call(name, x)), w.told(w.call(name, x, value)))
			}
			return strings.Join(append(all, w.show(x), w.show(value), w.told(w.call("GETHASH", x, h))), "\n")
		}
		before := tell(x, h)
		functions := 0
		moved := w.rooted([]heap.Word{x, h}, func() { w.collect(r) })
		for _, name := range Names() {
			f, _ := w.Function(w.symbol(name))
			if w.Heap().Kind(f) == heap.KindBuiltin {
				functions++
			}
		}
		if after := tell(moved[0], moved[1]); after != before || functions != len(Names()) {
			t.Fatalf("behind a collection:\n%s\nahead of it:\n%s", after, before)
		}
		if x, _ := w.Symbol(lisp, "NIL"); x != heap.Nil {
			t.Fatal("NIL has moved")
		}
	})
}

// P20.4: calls without effects change nothing but what they make, and calls with faults change no object that was there.
func TestPure(t *testing.T) {
	pure := strings.Fields("CONS LIST LIST* CONSP ATOM LISTP NULL APPEND REVERSE NTH LAST LENGTH MEMBER ASSOC COPY-LIST EQ EQUAL EQUALP SYMBOLP NUMBERP + - * / = < MAX FLOOR GCD LOGAND ASH NUMERATOR CHAR-CODE CHAR STRING= CONCAT SUBSEQ STRING VECTOR MAKE-ARRAY AREF TYPEP VALUES IDENTITY PRIN1-TO-STRING")
	faults := 0
	eachForm(110, func(r *rand.Rand, made api.Form) {
		w := newTester(t, 30000)
		x, e := w.Build(forms.List([]api.Form{{Kind: api.FormInt, Text: "1"}, {Kind: api.FormString, Text: "abc"}, forms.Nil(), {Kind: api.FormVector, Kids: []api.Form{{Kind: api.FormInt, Text: "1"}}}, forms.Symbol(user, "X"), {Kind: api.FormRatio, Text: "1/2"}}))
		y, e2 := w.Build(made)
		if e != api.OK || e2 != api.OK {
			return
		}
		words := append(w.all(x), x, y)
		state := func(roots []heap.Word) []heap.Cell {
			cells, _, _ := w.Heap().Cells(append(w.objects(), roots...))
			return cells
		}
		for range 40 {
			name := Names()[r.Intn(len(Names()))]
			isPure := r.Intn(2) == 0
			if isPure {
				name = pure[r.Intn(len(pure))]
			}
			var args []heap.Word
			for range r.Intn(4) {
				args = append(args, words[r.Intn(len(words))])
			}
			w.symbolsOfTypes()
			before, text := state(words), w.Symbols().Text()
			a := w.call(name, args...)
			isFault := a.Kind == AnswerFault
			if isFault {
				faults++
			}
			if !isFault && !isPure {
				return
			}
			if after := state(words); !slices.EqualFunc(before, after, sameCell) || w.Symbols().Text() != text && !isFault {
				t.Fatalf("%s of %s: %s has changed something", name, w.shows(args), w.told(a))
			}
		}
	})
	if faults < 300 {
		t.Errorf("only %d faults", faults)
	}
}

// objects returns the objects of all symbols.
func (w tester) objects() []heap.Word { return w.Parts().Words }

// symbolsOfTypes makes the objects of the symbols that faults have.
func (w tester) symbolsOfTypes() {
	for name := range strings.FieldsSeq(typeNames) {
		w.symbol(name)
	}
}

func sameCell(a, b heap.Cell) bool {
	return a.Kind == b.Kind && a.Raw == b.Raw && a.Bytes == b.Bytes && slices.Equal(a.Fields, b.Fields)
}

// P20.5: lists.
func TestLists(t *testing.T) {
	eachForm(300, func(r *rand.Rand, made api.Form) {
		w := newTester(t, 30000)
		x, e := w.Build(made)
		if e != api.OK {
			return
		}
		one := func(name string, l ...heap.Word) heap.Word {
			a := w.call(name, l...)
			if a.Kind != AnswerValues || len(a.Values) != 1 {
				t.Fatalf("%s: %s", name, w.told(a))
			}
			return a.Values[0]
		}
		y := fixnum(r.Intn(9))
		c := one("CONS", x, y)
		if one("CAR", c) != x || one("CDR", c) != y {
			t.Fatal("CAR and CDR of CONS")
		}
		args := slices.Repeat([]heap.Word{x, y, heap.Nil}, r.Intn(3))
		a, b := one("LIST", args...), one("LIST", args[:len(args)/2]...)
		both := one("APPEND", a, b)
		n, _ := one("LENGTH", both).Fixnum()
		if int(n) != len(args)+len(args)/2 {
			t.Fatalf("LENGTH of APPEND is %d", n)
		}
		for _, other := range []heap.Word{one("REVERSE", one("REVERSE", both)), one("COPY-LIST", both), one("SUBSEQ", both, fixnum(0))} {
			if one("EQUAL", other, both) == heap.Nil || both != heap.Nil && other == both {
				t.Fatal("a copy is not EQUAL, or is the list")
			}
		}
		for i, arg := range args {
			if one("NTH", fixnum(i), a) != arg {
				t.Fatal("NTH of LIST")
			}
		}
	})
}

// P20.6: symbols.
func TestSymbolLaws(t *testing.T) {
	w := newTester(t, 60000)
	r := rand.New(rand.NewSource(1))
	car, _ := w.Function(w.symbol("CAR"))
	for i := range 200 {
		name := w.newText(string(rune('A' + r.Intn(26))))
		pack := w.newText([]string{user, lisp, keyword, "CL"}[r.Intn(4)])
		a, b := w.call("INTERN", name, pack).Values[0], w.call("INTERN", name, pack).Values[0]
		if a != b || w.call("FIND-SYMBOL", name, pack).Values[0] != a {
			t.Fatal("INTERN twice")
		}
		value := fixnum(i)
		if set := w.call("SET", a, value); set.Kind == AnswerValues && w.call("SYMBOL-VALUE", a).Values[0] != value {
			t.Fatal("SET")
		}
		w.call("%FSET", a, w.symbol("CAR"))
		w.call("%SET-PLIST", a, value)
		if w.call("SYMBOL-FUNCTION", a).Values[0] != car || w.call("SYMBOL-PLIST", a).Values[0] != value {
			t.Fatal("functions and property lists are others")
		}
		known := w.objects()
		g := w.call("GENSYM", name).Values[0]
		if slices.Contains(known, g) || w.Parts().Counter != i+1 {
			t.Fatal("GENSYM")
		}
	}
}

// P20.1: numbers, as layer 5 calculates.
func TestNumberLaws(t *testing.T) {
	texts := strings.Fields("0 1 -1 2 7 -12 1152921504606846975 -1152921504606846976 1152921504606846976 99999999999999999999 1/2 -7/3 22/7 0.0 -0.0 1.5 -2.25 1d0 0.1d0 3e38 #C(1_2) #C(0.5_-1.0)")
	var all []api.Form
	for _, text := range texts {
		all = append(all, read(t, strings.ReplaceAll(text, "_", " ")))
	}
	w := newTester(t, api.MaxWords)
	for name, f := range map[string]func(x, y api.Form) (api.Form, api.Errno){"+": number.Add, "-": number.Sub, "*": number.Mul, "/": number.Div, "COMPLEX": number.Complex, "LOGAND": boole(8), "LOGIOR": boole(14), "LOGXOR": boole(6)} {
		for _, x := range all {
			for _, y := range all {
				first := x
				if n, ok := map[string]int64{"+": 0, "*": 1, "LOGAND": -1, "LOGIOR": 0, "LOGXOR": 0}[name]; ok {
					first, _ = f(integerForm(n), x)
				}
				want, e := f(first, y)
				if _, e2 := f(integerForm(1), x); e2 == api.ErrType {
					e = e2
				}
				a, _ := w.Build(x)
				b, _ := w.Build(y)
				answer := w.call(name, a, b)
				got := api.Form{}
				if answer.Kind == AnswerValues {
					got, _ = w.Show(answer.Values[0])
				}
				fault := map[api.Errno]string{api.OK: "", api.ErrZero: divisionByZero, api.ErrOver: arithmetic, api.ErrType: typeError}[e]
				if !forms.Equal(got, want) || answer.Fault.Type != fault {
					t.Fatalf("(%s %s %s): %s; want %v, %v", name, w.show(a), w.show(b), w.told(answer), want, e)
				}
			}
		}
	}
	for name, holds := range map[string]func(sign int) bool{"<": func(s int) bool { return s < 0 }, "<=": func(s int) bool { return s <= 0 }, ">": func(s int) bool { return s > 0 }, ">=": func(s int) bool { return s >= 0 }, "=": func(s int) bool { return s == 0 }, "/=": func(s int) bool { return s != 0 }} {
		for _, x := range all[:len(all)-2] {
			for _, y := range all[:len(all)-2] {
				sign, _ := number.Cmp(x, y)
				a, _ := w.Build(x)
				b, _ := w.Build(y)
				if got := w.call(name, a, b).Values[0] != heap.Nil; got != holds(sign) {
					t.Fatalf("(%s %s %s) is %v", name, w.show(a), w.show(b), got)
				}
			}
		}
	}
}

// P20.1: parts of a world, and another world of them.
func TestRestore(t *testing.T) {
	w := newTester(t, 30000)
	w.build("(X #:Y :Z)")
	w.perform("(GENSYM)")
	w.Print("printed")
	s, _ := w.Symbol(user, "X")
	w.SetValue(s, w.build("#1=(1 X #1#)"))
	w.SetFunction(s, w.symbol("CAR"))
	w.call("%SET-PLIST", heap.Nil, fixnum(7))
	p := w.Parts()
	if p.Table != w.Symbols().Text() || p.Output != "printed" || p.Counter != 1 || len(p.Numbers) != len(p.Words) || !slices.IsSorted(p.Numbers) || p.Numbers[0] != 0 || p.Words[0] != heap.Nil {
		t.Fatalf("Parts: %d numbers, counter %d", len(p.Numbers), p.Counter)
	}
	for i, n := range p.Numbers {
		if k, ok := w.numberOf(p.Words[i]); !ok || k != n {
			t.Fatalf("the word of the symbol %d is that of %d", n, k)
		}
	}
	cells, fields, e := w.Heap().Cells(slices.Concat(p.Words, w.fields(heap.Nil), []heap.Word{s, fixnum(9)}))
	if e != api.OK {
		t.Fatal(e)
	}
	next, words, e := Restore(20000, 100, p, cells, fields)
	if e != api.OK || len(words) != 2 || words[1] != fixnum(9) {
		t.Fatalf("Restore: %v, %v", words, e)
	}
	v := tester{World: next, t: t}
	s2, _ := v.Symbol(user, "X")
	value, _ := v.Value(s2)
	if words[0] != s2 || v.show(value) != "#0=(1 x #0#)" || v.Output() != "printed" || v.Parts().Counter != 1 || v.Parts().Table != p.Table || !slices.Equal(v.Parts().Numbers, p.Numbers) || v.Heap().Limit() != 20000 {
		t.Errorf("the new world has X with %s", v.show(value))
	}
	for text, want := range map[string]string{"(CAR (1))": "1", "(NULL NIL)": "t", "(SET T 1)": "!PROGRAM-ERROR t", "(SYMBOL-PLIST NIL)": "7", "(SYMBOL-VALUE NIL)": "nil"} {
		if got := v.perform(text); got != want {
			t.Errorf("in the new world %s: %s; want %s", text, got, want)
		}
	}
	if got := v.told(v.call("GENSYM")); got != "#:g1" {
		t.Errorf("GENSYM: %s", got)
	}
	if cells2, fields2, _ := v.Heap().Cells(slices.Concat(v.Parts().Words[:len(p.Words)], v.fields(heap.Nil), words)); len(fields2) != len(fields) || len(cells2) < len(cells) {
		t.Error("the new world has other objects")
	}
}

// P20.1: the errors of Restore, in their order.
func TestRestoreErrors(t *testing.T) {
	w := newTester(t, 30000)
	right := w.Parts()
	cells, fields, _ := w.Heap().Cells(slices.Concat(right.Words, w.fields(heap.Nil)))
	for name, x := range map[string]struct {
		change func(p *Parts, cells []heap.Cell, fields []heap.Field) ([]heap.Cell, []heap.Field)
		limit  int
		want   api.Errno
	}{
		"right": {nil, 20000, api.OK},
		"table": {func(p *Parts, c []heap.Cell, f []heap.Field) ([]heap.Cell, []heap.Field) {
			p.Table, p.Counter = "x", -1
			return c, f
		}, 20000, api.ErrForm},
		"long table": {func(p *Parts, c []heap.Cell, f []heap.Field) ([]heap.Cell, []heap.Field) {
			p.Table = strings.Repeat("x", 200001)
			return c, f
		}, 20000, api.ErrForm},
		"output": {func(p *Parts, c []heap.Cell, f []heap.Field) ([]heap.Cell, []heap.Field) {
			p.Output, p.Counter = strings.Repeat("x", 20001), -1
			return c, f
		}, 20000, api.ErrLarge},
		"counter": {func(p *Parts, c []heap.Cell, f []heap.Field) ([]heap.Cell, []heap.Field) { p.Counter = -1; return c, f }, 1, api.ErrArg},
		"no numbers": {func(p *Parts, c []heap.Cell, f []heap.Field) ([]heap.Cell, []heap.Field) {
			p.Numbers = nil
			return c, f
		}, 20000, api.ErrArg},
		"first number": {func(p *Parts, c []heap.Cell, f []heap.Field) ([]heap.Cell, []heap.Field) {
			p.Numbers = p.Numbers[1:]
			return c, f
		}, 20000, api.ErrArg},
		"twice": {func(p *Parts, c []heap.Cell, f []heap.Field) ([]heap.Cell, []heap.Field) {
			p.Numbers[2] = p.Numbers[1]
			return c, f
		}, 20000, api.ErrArg},
		"first number twice": {func(p *Parts, c []heap.Cell, f []heap.Field) ([]heap.Cell, []heap.Field) {
			p.Numbers = append([]int{0}, p.Numbers...)
			return c, append([]heap.Field{f[0]}, f...)
		}, 20000, api.ErrArg},
		"output that is just right": {func(p *Parts, c []heap.Cell, f []heap.Field) ([]heap.Cell, []heap.Field) {
			p.Output = strings.Repeat("x", 20000)
			return c, f
		}, 20000, api.OK},
		"number of fields of a symbol": {func(p *Parts, c []heap.Cell, f []heap.Field) ([]heap.Cell, []heap.Field) {
			x := &c[f[3].Object]
			x.Fields = append(x.Fields, heap.Field{Object: -2})
			return c, f
		}, 20000, ErrNoSymbol},
		"no symbol": {func(p *Parts, c []heap.Cell, f []heap.Field) ([]heap.Cell, []heap.Field) {
			p.Numbers[len(p.Numbers)-1] = 999
			return c, f
		}, 20000, api.ErrArg},
		"fields": {func(p *Parts, c []heap.Cell, f []heap.Field) ([]heap.Cell, []heap.Field) { return c, f[:len(f)-1] }, 20000, api.ErrArg},
		"limit":  {func(p *Parts, c []heap.Cell, f []heap.Field) ([]heap.Cell, []heap.Field) { c[0].Kind = 99; return c, f }, 1, api.ErrArg},
		"kind":   {func(p *Parts, c []heap.Cell, f []heap.Field) ([]heap.Cell, []heap.Field) { c[0].Kind = 99; return c, f }, 20000, api.ErrArg},
		"raw": {func(p *Parts, c []heap.Cell, f []heap.Field) ([]heap.Cell, []heap.Field) {
			c[0].Bytes = "x"
			return c, f
		}, 20000, heap.ErrRaw},
		"field": {func(p *Parts, c []heap.Cell, f []heap.Field) ([]heap.Cell, []heap.Field) { f[0].Word = 7; return c, f }, 20000, heap.ErrWord},
		"words": {nil, 500, api.ErrWords},
		"symbol's kind": {func(p *Parts, c []heap.Cell, f []heap.Field) ([]heap.Cell, []heap.Field) {
			c[f[3].Object].Kind = heap.KindVector
			return c, f
		}, 20000, ErrNoSymbol},
		"number": {func(p *Parts, c []heap.Cell, f []heap.Field) ([]heap.Cell, []heap.Field) {
			c[f[3].Object].Fields[0].Word = 8 * 4
			return c, f
		}, 20000, ErrNoSymbol},
		"name": {func(p *Parts, c []heap.Cell, f []heap.Field) ([]heap.Cell, []heap.Field) {
			c[c[f[3].Object].Fields[1].Object].Bytes = "CER"
			return c, f
		}, 20000, ErrNoSymbol},
		"name's kind": {func(p *Parts, c []heap.Cell, f []heap.Field) ([]heap.Cell, []heap.Field) {
			c[c[f[3].Object].Fields[1].Object].Kind = heap.KindBits
			return c, f
		}, 20000, ErrNoSymbol},
		"immediate": {func(p *Parts, c []heap.Cell, f []heap.Field) ([]heap.Cell, []heap.Field) {
			f[3] = heap.Field{Word: 40, Object: -1}
			return c, f
		}, 20000, ErrNoSymbol},
		"NIL":       {func(p *Parts, c []heap.Cell, f []heap.Field) ([]heap.Cell, []heap.Field) { f[0] = f[1]; return c, f }, 20000, ErrNoSymbol},
		"other NIL": {func(p *Parts, c []heap.Cell, f []heap.Field) ([]heap.Cell, []heap.Field) { f[3] = f[0]; return c, f }, 20000, ErrNoSymbol},
		"NIL's name": {func(p *Parts, c []heap.Cell, f []heap.Field) ([]heap.Cell, []heap.Field) {
			f[len(f)-4] = heap.Field{Word: 40, Object: -1}
			return c, f
		}, 20000, ErrNoSymbol},
		"NIL's value": {func(p *Parts, c []heap.Cell, f []heap.Field) ([]heap.Cell, []heap.Field) {
			f[len(f)-3] = heap.Field{Word: 40, Object: -1}
			return c, f
		}, 20000, api.OK},
	} {
		p := right
		p.Numbers = slices.Clone(right.Numbers)
		var c []heap.Cell
		for _, cell := range cells {
			cell.Fields = slices.Clone(cell.Fields)
			c = append(c, cell)
		}
		f := slices.Clone(fields)
		if x.change != nil {
			c, f = x.change(&p, c, f)
		}
		w, words, e := Restore(x.limit, 1, p, c, f)
		if x.limit == 1 && x.want == api.ErrArg && e == api.ErrArg {
			continue
		}
		if e != x.want || (w == nil) != (e != api.OK) || len(words) > 0 {
			t.Errorf("Restore with another %s: %v; want %v", name, e, x.want)
		}
	}
	few := Parts{Table: right.Table, Numbers: []int{0}}
	c2, f2, _ := w.Heap().Cells(append([]heap.Word{heap.Nil}, w.fields(heap.Nil)...))
	v, _, e := Restore(20000, 1, few, c2, f2)
	if e != api.OK {
		t.Fatalf("Restore of NIL alone: %v", e)
	}
	x := tester{World: v, t: t}
	other := x.symbol("CAR")
	if e := v.SetValue(other, 0); e != api.OK {
		t.Errorf("SetValue of CAR: %v", e)
	}
	truth := x.symbol("T") // which is made now, and is its own value
	if value, _ := v.Value(truth); value != truth || v.SetValue(truth, 0) != api.ErrArg || x.told(x.call("CAR")) != "!UNDEFINED-FUNCTION car" {
		t.Errorf("T has the value %s", x.show(value))
	}
}
