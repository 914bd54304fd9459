package core

import (
	"reflect"
	"strings"
	"testing"

	"commonform/api"
	"commonform/forms"
	trees "commonform/tree"
)

// P19.2: trees of made forms are right, and have no free variables; the names in a form do not matter.
func TestConvertLaw(t *testing.T) {
	ops := map[int]bool{}
	eachTree(t, 1500, func(m *maker, made api.Form, c api.Core) {
		if e := Check(c); e != api.OK || len(Free(c)) > 0 {
			t.Fatalf("seed of %s: Check %v, Free %v", made.Text, e, Free(c))
		}
		for _, node := range walk(c) {
			ops[node.Op] = true
		}
	})
	for seed := range int64(800) {
		a, b := newMaker(seed, "V"), newMaker(seed, "#OTHER")
		x, e := Convert(a.form(5), nil)
		y, e2 := Convert(b.form(5), nil)
		s, _ := Show(x)
		s2, _ := Show(y)
		// a special variable, and a key, are told by their names
		if s2 = strings.ReplaceAll(s2, "~23OTHER", "V"); e != e2 || s != s2 {
			t.Fatalf("with other names:\n%s, %v\n%s, %v", s, e, s2, e2)
		}
	}
	for op := api.CoreConst; op <= api.CoreValuesFirst; op++ {
		if !ops[op] {
			t.Errorf("no tree has the op %d", op)
		}
	}
}

// isEqual compares trees, where nil and empty lists are the same.
func isEqual(a, b api.Core) bool {
	s, e := Show(a)
	s2, e2 := Show(b)
	return e == api.OK && e2 == api.OK && s == s2 && reflect.DeepEqual(plain(a), plain(b))
}

func plain(c api.Core) api.Core {
	made := api.Core{Op: c.Op, N: c.N, Data: trees.Copy(c.Data), Syms: trees.Copies(c.Syms)}
	made.Vars = append(made.Vars, c.Vars...)
	for _, p := range c.Pars {
		p.Key = trees.Copy(p.Key)
		made.Pars = append(made.Pars, p)
	}
	for _, kid := range c.Kids {
		made.Kids = append(made.Kids, plain(kid))
	}
	return made
}

// P19.3: there and back.
func TestTexts(t *testing.T) {
	tooLong := 0
	eachTree(t, 800, func(m *maker, made api.Form, c api.Core) {
		s, e := Show(c)
		back, e2 := Parse(s)
		if len(s) > 20000 {
			tooLong++
			if e2 != api.ErrSize {
				t.Fatalf("Parse of a long text: %v", e2)
			}
			return
		}
		again, e3 := Show(back)
		if e != api.OK || e2 != api.OK || e3 != api.OK || !isEqual(c, back) || again != s {
			t.Fatalf("Parse(%s): %v, %v, %v", s, e, e2, e3)
		}
	})
	if tooLong > 300 {
		t.Errorf("%d texts are too long", tooLong)
	}
}

// P19.1: names with any characters, and constants with parts.
func TestTextBytes(t *testing.T) {
	for _, x := range []struct {
		f    api.Form
		want string
	}{
		{api.Form{Kind: api.FormString, Text: "a b~AzZ0-*+/<>=%&_.é\x00\n@[`{"}, "(const 8::a~20b~7eAzZ0-*+/<>=%&~5f~2e~c3~a9~00~0a~40~5b~60~7b)"}, {forms.Symbol("P Q", "a:b"), "(const 1:P~20Q:a~3ab)"}, {api.Form{Kind: api.FormVector}, "(const 11::)"}, {api.Form{Kind: api.FormArray, Kids: []api.Form{number(1)}}, "(const 12::(2::1))"}, {forms.Symbol("", ""), "(const 1::)"}, {list(number(1), list(number(2))), "(const 10::(2::1 10::(2::2 1:COMMON-LISP:NIL) 1:COMMON-LISP:NIL))"},
		{api.Form{Kind: api.FormLabel, Text: "1", Kids: []api.Form{{Kind: api.FormCons, Kids: []api.Form{number(1), {Kind: api.FormRef, Text: "1"}}}}}, "(const 13::1(10::(2::1 14::1)))"},
	} {
		c := api.Core{Op: api.CoreConst, Data: x.f}
		s, e := Show(c)
		back, e2 := Parse(s)
		if s != x.want || e != api.OK || e2 != api.OK || !isEqual(back, c) {
			t.Errorf("Show = %s, %v; Parse: %v; want %s", s, e, e2, x.want)
		}
	}
}

// P19.1: texts that Show does not return.
func TestParseErrors(t *testing.T) {
	for _, text := range strings.Split("|(|)|()|(progn|progn|(progn) |  (progn)|(progn)(progn)|(progn )|(progn  (progn))|(progn(progn))|(Progn)|(prog)|(prognn)|(callGlobal F)|(set-special A (progn))|(values-call (progn))|(const)|(const 5:)|(const 2::1 2::2)|(const 02::1)|(const 2:1)|(const :2:1)|(const +2::1)|(const -2::1)|(const 2::1())|(const 8::a b)|(const 8::~)|(const 8::~2)|(const 8::~2G)|(const 8::~2A)|(const 8::~41)|(const 8::~ff)|(const 8::_)|(const 11::( 2::1))|(const 11::(2::1 ))|(const 11::(2::1  2::2))|(const 11::(2::1)|(const 99999999999999999999::)|(const 13::1(14::2))"+
		"|(var 0)|(let [0] (const 2::1) (var 00))|(let [0] (const 2::1) (var -0))|(let [0] (const 2::1) (var +0))|(let [0] (const 2::1) (var))|(let [ 0] (const 2::1) (var 0))|(let [0 ] (const 2::1) (var 0))|(let [0  1] (const 2::1) (const 2::1) (var 0))|(let [] )|(let [0 (const 2::1) (var 0))|(let (const 2::1))|(let 0 (const 2::1) (var 0))|(let [99999999999999999999] (const 2::1) (progn))|(let [0] (progn) (var 99999999999999999999))|(bind [A] (progn) (progn))|(bind [1:A:B1:A:C] (progn) (progn) (progn))"+
		"|(lambda (progn))|(lambda 0 {1 0 -1} (progn))|(lambda 0 {1 0 -1 - } (progn))|(lambda 0 {1 0 -1 -}{1 1 -1 -} (progn))|(lambda 0  {1 0 -1 -} (progn))|(lambda 0 {1 0 -01 -} (progn))|(lambda 0 {4 0 -1 -} (progn) (progn))|(lambda 0 {4 0 -1 --} (progn) (progn))|(lambda 0 {} (progn))|(lambda 00 (progn))|(block 0 (return 0 (progn)) )|(go 0)|(if (progn) (progn))|(progn\x00)|(const 8::\x00)", "|") {
		if c, e := Parse(text); e != api.ErrForm || c.Op != 0 {
			t.Errorf("Parse(%q) = %v; want ErrForm", text, e)
		}
	}
	body := func(n int) string { return "(const 8::" + strings.Repeat("a", n-11) + ")" }
	if _, e := Parse(body(20000)); e != api.OK {
		t.Errorf("Parse of 20000 bytes: %v", e)
	}
	if _, e := Parse(body(20001)); e != api.ErrSize {
		t.Errorf("Parse of 20001 bytes: %v", e)
	}
	if _, e := Parse(strings.Repeat("(progn ", 2500)); e != api.ErrForm {
		t.Errorf("Parse of an open text: %v", e)
	}
	if _, e := Parse(strings.Repeat("(progn ", 2400) + "(progn)" + strings.Repeat(")", 2400)); e != api.ErrForm {
		t.Errorf("Parse of a deep text: %v", e)
	}
}

// P19.1: each text with one byte changed, inserted or taken away is that of another right tree, or of none.
func TestParseChanges(t *testing.T) {
	text := "(let [0 1] (const 2::1) (lambda 1 {1 2 -1 -} {4 3 4 1:K:X} (progn) (block 0 (var 3))) (bind [1:A:B] (var 0) (tagbody [0] (go 0) (const 8::a~20))))"
	if _, e := Parse(text); e != api.OK {
		t.Fatal(e)
	}
	same := 0
	for i := range text {
		for _, b := range []string{"", "0", "1", " ", "(", ")", "-", "a", ":", "~", "[", "}"} {
			for _, changed := range []string{text[:i] + b + text[i+1:], text[:i] + b + text[i:]} {
				c, e := Parse(changed)
				if e == api.ErrForm {
					continue
				}
				same++
				if s, e2 := Show(c); e != api.OK || e2 != api.OK || s != changed {
					t.Fatalf("Parse(%s): %v; it is shown as %s", changed, e, s)
				}
			}
		}
	}
	if same < 100 {
		t.Errorf("only %d texts have trees", same)
	}
}

// P19.4: renaming.
func TestRenaming(t *testing.T) {
	eachTree(t, 500, func(m *maker, made api.Form, c api.Core) {
		i, k := m.Intn(2000), m.Intn(2000)
		a, e := Renamed(c, i)
		b, e2 := Renamed(a, k)
		sum, e3 := Renamed(c, i+k)
		back, e4 := Renamed(b, -i-k)
		if e != api.OK || e2 != api.OK || e3 != api.OK || e4 != api.OK || !isEqual(b, sum) || !isEqual(back, c) {
			t.Fatalf("Renamed by %d and %d: %v, %v, %v, %v", i, k, e, e2, e3, e4)
		}
		for _, pair := range [][2]api.Core{{c, c}, {a, c}, {c, a}, {a, b}, {c, b}} {
			if !Same(pair[0], pair[1]) {
				t.Fatal("a tree is not the Same as its renamed one")
			}
		}
	})
}

// P19.1: how far trees can be renamed.
func TestRenamedErrors(t *testing.T) {
	const most = 1<<63 - 1
	for _, x := range []struct {
		text string
		by   int
		want string
	}{
		{"(let [3 5] (const 1) (const 2) (set 3 (var 5)))", 2, "(let [5 7] (const 1) (const 2) (set 5 (var 7)))"}, {"(let [3 5] (const 1) (const 2) (set 3 (var 5)))", -3, "(let [0 2] (const 1) (const 2) (set 0 (var 2)))"}, {"(let [3 5] (const 1) (const 2) (set 3 (var 5)))", -4, ""}, {"(let [3 5] (const 1) (const 2) (set 3 (var 5)))", 9994, "(let [9997 9999] (const 1) (const 2) (set 9997 (var 9999)))"}, {"(let [3 5] (const 1) (const 2) (set 3 (var 5)))", 9995, ""},
		{"(lambda 0 {1 0 -1 -} {2 1 2 -} (progn) (block 4 (return 4 (tagbody [7] (go 7) (progn)))))", 1, "(lambda 0 {1 1 -1 -} {2 2 3 -} (progn) (block 5 (return 5 (tagbody [8] (go 8) (progn)))))"}, {"(lambda 1 (progn))", 5, "(lambda 1 (progn))"}, {"(const 5)", most, "(const 5)"}, {"(const 5)", -most - 1, "(const 5)"}, {"(block 1 (progn))", most, ""}, {"(block 1 (progn))", -most - 1, ""}, {"(tagbody [1] (progn) (progn))", 9999, ""}, {"(labels [0] (lambda 0 (var 0)) (var 0))", -1, ""},
	} {
		c, e := Renamed(treeOf(t, x.text), x.by)
		s, _ := Show(c)
		if x.want == "" && (e != api.ErrRange || c.Op != 0) || x.want != "" && (e != api.OK || s != long(x.want)) {
			t.Errorf("Renamed(%s, %d) = %s, %v; want %s", x.text, x.by, short(s), e, x.want)
		}
	}
	if _, e := Renamed(treeOf(t, "(var 0)"), 99999); e != api.ErrForm {
		t.Errorf("Renamed of a wrong tree: %v", e)
	}
}

// P19.4: which trees differ in numbers alone.
func TestSame(t *testing.T) {
	right := func(a, b string, want bool) {
		t.Helper()
		x, y := treeOf(t, a), treeOf(t, b)
		if Same(x, y) != want || Same(y, x) != want {
			t.Errorf("Same(%s, %s): want %v", a, b, want)
		}
	}
	right("(let [0] (const 1) (var 0))", "(let [5] (const 1) (var 5))", true)
	right("(let [0 1] (const 1) (const 1) (var 0))", "(let [1 0] (const 1) (const 1) (var 1))", true)
	right("(let [0 1] (const 1) (const 1) (var 0))", "(let [0 1] (const 1) (const 1) (var 1))", false)
	right("(block 0 (block 1 (return 0 (progn))))", "(block 1 (block 0 (return 1 (progn))))", true)
	right("(block 0 (block 1 (return 0 (progn))))", "(block 0 (block 1 (return 1 (progn))))", false)
	right("(tagbody [0 1] (go 0) (progn) (progn))", "(tagbody [1 0] (go 1) (progn) (progn))", true)
	right("(tagbody [0 1] (go 0) (progn) (progn))", "(tagbody [0 1] (go 1) (progn) (progn))", false)
	right("(lambda 0 {2 0 1 -} (progn) (var 1))", "(lambda 0 {2 7 3 -} (progn) (var 3))", true)
	right("(lambda 0 {2 0 1 -} (progn) (progn))", "(lambda 0 {2 0 -1 -} (progn) (progn))", false)
	right("(lambda 0 {1 0 -1 -} (progn))", "(lambda 0 {3 0 -1 -} (progn))", false)
	right("(lambda 0 (progn))", "(lambda 1 (progn))", false)
	right("(lambda 0 {4 0 -1 %A} (progn) (progn))", "(lambda 0 {4 0 -1 %B} (progn) (progn))", false)
	right("(lambda 0 {4 0 -1 %A} (progn) (progn))", "(lambda 0 {4 9 -1 %A} (progn) (progn))", true)
	right("(bind [A] (progn) (progn))", "(bind [B] (progn) (progn))", false)
	right("(const 1)", "(const 2)", false)
	right("(special A)", "(function A)", false)
	right("(progn (progn))", "(progn (progn) (progn))", false)
	right("(labels [0] (lambda 0 (call (var 0))) (var 0))", "(labels [3] (lambda 0 (call (var 3))) (var 3))", true)
	right("(var 0)", "(var 0)", false)
	right("(progn)", "(var 0)", false)
	right("(block 0 (progn))", "(block 10000 (progn))", false)
}

// P19.4: Same is symmetric and transitive, and tells changed trees apart.
func TestSameLaw(t *testing.T) {
	var all []api.Core
	eachTree(t, 14, func(m *maker, made api.Form, c api.Core) {
		x, _ := Renamed(c, m.Intn(100))
		all = append(all, c, x)
	})
	for i, a := range all {
		for k, b := range all {
			s, _ := Show(a)
			s2, _ := Show(b)
			zero, _ := Renamed(b, 0)
			if Same(a, b) != Same(b, a) || Same(a, b) != Same(a, zero) || s == s2 && !Same(a, b) || i/2 == k/2 && !Same(a, b) {
				t.Fatalf("Same of the trees %d and %d", i, k)
			}
			for l := range all {
				if l%5 == 0 && Same(a, b) && Same(b, all[l]) && !Same(a, all[l]) {
					t.Fatalf("Same of the trees %d, %d and %d", i, k, l)
				}
			}
		}
	}
}

// R4: results share no memory with arguments.
func TestMemory(t *testing.T) {
	f := read(t, "(LET ((X (QUOTE (1 2)))) (DECLARE (SPECIAL X)) X)")
	c, _ := Convert(f, nil)
	r, _ := Renamed(c, 0)
	s, _ := Show(c)
	data := f.Kids[1].Kids[0].Kids[1].Kids[1]
	data.Kids[0] = forms.Nil()
	if s2, _ := Show(c); s2 != s {
		t.Error("a tree has changed with its form")
	}
	c.Kids[0].Data.Kids[0] = forms.Nil()
	c.Syms[0].Text = "CHANGED"
	if s2, _ := Show(r); s2 != s {
		t.Error("a renamed tree has changed with the tree")
	}
}
