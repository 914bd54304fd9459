package forms

import (
	"slices"
	"strings"
	"testing"

	"commonform/api"
	"commonform/tree"
)

// P1.1: the table of forms.
func TestCheckNodes(t *testing.T) {
	one := num("1")
	right := []api.Form{
		Symbol("", ""), Symbol("P", "a b"), num("0"), num("-12"), num("123456789012345678901234567890"),
		node(api.FormRatio, "-1/2"), node(api.FormRatio, "3/10"), node(api.FormRatio, "2000000000000000000/4000000000000000000"), node(api.FormRatio, "2/4000000000000000000"),
		node(api.FormSingle, "7f800000"), node(api.FormDouble, "fff0000000000001"),
		complexOf(num("0"), num("-1")), complexOf(node(api.FormRatio, "1/2"), num("3")), complexOf(node(api.FormSingle, "00000000"), node(api.FormSingle, "00000000")), complexOf(node(api.FormDouble, "0000000000000000"), node(api.FormDouble, "0000000000000000")),
		node(api.FormChar, "é"), node(api.FormChar, "\n"), node(api.FormChar, "\uFFFD"), str(""), str("aé"), node(api.FormBits, ""), node(api.FormBits, "0110"),
		cons(one, one), cons(one, one, Nil()), vec(), vec(one, one),
		node(api.FormArray, "", one), node(api.FormArray, "0 5"), node(api.FormArray, "1 2", one, one), node(api.FormArray, "2000 0 2000 2000 2000 2000 2000"), node(api.FormArray, "1 1 1 1 1 1 1", one),
		lab("0", vec()), lab("999", vec()), cons(lab("1", cons(one, one)), lab("2", cons(one, one))),
	}
	for _, f := range right {
		if e := Check(f); e != api.OK {
			t.Errorf("Check(%s) = %v", show(f), e)
		}
	}
	wrong := []api.Form{
		{}, node(-1, ""), node(15, ""), node(api.FormSymbol, "A", one), node(api.FormSymbol, "\xc0"), Symbol("\xff", "A"),
		num(""), num("-"), num("+1"), num("-0"), num("00"), num("1a"), num("１"), node(api.FormInt, "1", one), {Kind: api.FormInt, Text: "1", Home: "H"},
		node(api.FormRatio, "1"), node(api.FormRatio, "1/"), node(api.FormRatio, "/2"), node(api.FormRatio, "0/2"), node(api.FormRatio, "1/0"), node(api.FormRatio, "1/1"), node(api.FormRatio, "1/-2"), node(api.FormRatio, "2/4"), node(api.FormRatio, "1/2/3"), node(api.FormRatio, "01/2"), node(api.FormRatio, "1/02"), node(api.FormRatio, "-200000000000000000/400000000000000000"),
		node(api.FormSingle, "7F800000"), node(api.FormSingle, "0000000"), node(api.FormSingle, "000000000"), node(api.FormDouble, "00000000"), node(api.FormDouble, "000000000000000g"),
		complexOf(num("1"), num("0")), complexOf(num("1"), node(api.FormSingle, "00000000")), complexOf(node(api.FormSingle, "00000000"), node(api.FormDouble, "0000000000000000")), complexOf(str(""), num("1")), node(api.FormComplex, "", num("1")), node(api.FormComplex, "1", num("1"), num("1")), complexOf(num("01"), num("1")),
		node(api.FormChar, ""), node(api.FormChar, "ab"), node(api.FormChar, "\xff"), node(api.FormChar, "\xed\xa0\x80"), str("\xff"), {Kind: api.FormString, Home: "H"}, node(api.FormString, "", one), node(api.FormBits, "2"),
		cons(), cons(one), node(api.FormCons, "x", one, one), cons(one, cons(one, one)), node(api.FormVector, "x"), {Kind: api.FormVector, Home: "H"},
		node(api.FormArray, ""), node(api.FormArray, "2", one, one), node(api.FormArray, "1  1", one), node(api.FormArray, " 1", one), node(api.FormArray, "1 1 ", one), node(api.FormArray, "01 1", one), node(api.FormArray, "2001 0"), node(api.FormArray, "1 1 1 1 1 1 1 1", one), node(api.FormArray, "1 2", one), node(api.FormArray, "2000 2000 2000 2000 2000 2000 2000"), node(api.FormArray, "-1 0"),
		lab("00", vec()), lab("1000", vec()), lab("", vec()), lab("-1", vec()), node(api.FormLabel, "0"), node(api.FormLabel, "0", vec(), vec()), vec(lab("0", vec()), node(api.FormRef, "0", vec())), vec(ref("x")),
	}
	for _, f := range wrong {
		if e := Check(f); e != api.ErrForm {
			t.Errorf("Check(%s) = %v; want ErrForm", show(f), e)
		}
	}
}

// P1.1: labels, and the order of errors.
func TestCheckLabels(t *testing.T) {
	for _, c := range []struct {
		f    api.Form
		want api.Errno
	}{
		{vec(lab("1", vec(ref("1"))), ref("1")), api.OK},
		{vec(ref("1"), lab("1", vec())), ErrLabel},
		{ref("0"), ErrLabel},
		{vec(lab("1", vec()), ref("2")), ErrLabel},
		{vec(lab("1", vec()), lab("1", vec())), api.ErrTwice},
		{lab("1", vec(lab("1", vec()))), api.ErrTwice},
		{lab("1", lab("2", vec())), ErrLabel},
		{vec(lab("1", vec()), lab("2", ref("1"))), ErrLabel},
		{vec(lab("1", vec()), lab("1", ref("1"))), api.ErrTwice},
		{vec(lab("1", lab("2", vec())), lab("2", vec())), ErrLabel},
		{vec(ref("2"), lab("1", vec()), lab("1", vec())), ErrLabel},
		{vec(lab("1", vec()), lab("1", vec()), ref("2")), api.ErrTwice},
		{vec(ref("2"), num("01")), api.ErrForm},
		{vec(many(2000, num("01"))...), api.ErrSize},
		{vec(many(1999, num("1"))...), api.OK},
		{vec(many(2000, num("1"))...), api.ErrSize},
		{nested(100), api.OK},
		{nested(101), api.ErrSize},
	} {
		if e := Check(c.f); e != c.want {
			t.Errorf("Check(%.60s) = %v; want %v", show(c.f), e, c.want)
		}
	}
}

// P1.1: the codes and the limit of the layer.
func TestConstants(t *testing.T) {
	if ErrLabel != 30 || ErrCircle != 31 || MaxRank != 7 {
		t.Error("constants")
	}
}

// P1.1: trees.
func TestTrees(t *testing.T) {
	if f := Symbol("H", "N"); show(f) != "1:H:N" {
		t.Errorf("Symbol = %s", show(f))
	}
	if f := Nil(); show(f) != "1:COMMON-LISP:NIL" || !IsNil(f) {
		t.Errorf("Nil = %s", show(f))
	}
	odd := node(api.FormSymbol, "A", vec())
	odd.Home = "H"
	if !Is(odd, "H", "A") || Is(odd, "H", "B") || Is(odd, "G", "A") || Is(str("A"), "", "A") {
		t.Error("Is")
	}
	if IsNil(Symbol("X", "NIL")) || IsNil(Symbol("COMMON-LISP", "nil")) || IsNil(str("NIL")) {
		t.Error("IsNil")
	}
	for kind := range 17 {
		if Number(node(kind, "")) != (kind >= api.FormInt && kind <= api.FormComplex) {
			t.Errorf("Number of the kind %d", kind)
		}
	}
	a := cons(sym("A"), vec(num("1")))
	for _, b := range []api.Form{cons(sym("A"), vec(num("2"))), cons(sym("A"), vec()), cons(Symbol("G", "A"), vec(num("1"))), node(api.FormVector, "", a.Kids...), node(api.FormCons, "x", a.Kids...)} {
		if Equal(a, b) || !Equal(b, b) {
			t.Errorf("Equal of %s and %s", show(a), show(b))
		}
	}
	empty := vec()
	empty.Kids = []api.Form{}
	if !Equal(vec(), empty) {
		t.Error("Equal of nil and no Kids")
	}
}

// P1.2.
func TestLists(t *testing.T) {
	a, b, c := sym("A"), vec(sym("B")), num("3")
	lists := [][]api.Form{nil, {}, {a}, {a, b}, {a, b, c}, {cons(a, b), Nil()}}
	for _, l := range lists {
		items, ok := Items(List(l))
		if !ok || showAll(items) != showAll(l) {
			t.Errorf("Items of List of %s = %s, %v", showAll(l), showAll(items), ok)
		}
		for _, tail := range []api.Form{a, Nil(), vec(), {}} {
			elements, last := Spread(Dotted(l, tail))
			if showAll(elements) != showAll(l) || !Equal(last, tail) {
				t.Errorf("Spread of Dotted of %s and %s = %s, %s", showAll(l), show(tail), showAll(elements), show(last))
			}
			if items, ok := Items(Dotted(l, tail)); ok != IsNil(tail) || ok && showAll(items) != showAll(l) || !ok && len(items) > 0 {
				t.Errorf("Items of Dotted of %s and %s = %s, %v", showAll(l), show(tail), showAll(items), ok)
			}
			for _, more := range lists {
				both := append(slices.Clone(l), more...)
				if x, y := Dotted(l, Dotted(more, tail)), Dotted(both, tail); !Equal(x, y) {
					t.Errorf("Dotted = %s; want %s", show(x), show(y))
				}
			}
		}
	}
	if f := Dotted([]api.Form{a}, cons()); !Equal(f, cons(a)) {
		t.Errorf("Dotted of a cons without Kids = %s", show(f))
	}
	for _, f := range []api.Form{cons(), cons(a), vec(a, Nil()), a, {}} {
		if l, tail := Spread(f); len(l) != 0 || !Equal(tail, f) {
			t.Errorf("Spread(%s) = %s, %s", show(f), showAll(l), show(tail))
		}
		if l, ok := Items(f); len(l) != 0 || ok {
			t.Errorf("Items(%s) = %s, %v", show(f), showAll(l), ok)
		}
	}
	if f := Call("CAR", []api.Form{a, b}); !Equal(f, cons(Symbol("COMMON-LISP", "CAR"), a, b, Nil())) {
		t.Errorf("Call = %s", show(f))
	}
	if f := Call("F", nil); !Equal(f, cons(Symbol("COMMON-LISP", "F"), Nil())) {
		t.Errorf("Call = %s", show(f))
	}
}

// Rule R4: a result shares no memory with an argument, nor is what lies behind a list's end changed.
func TestResultsAreNew(t *testing.T) {
	room := []api.Form{sym("A"), vec(sym("B")), sym("C"), sym("D")}
	l := room[:2]
	tail := cons(vec(sym("E")), Nil())
	results := []api.Form{List(l), Dotted(l, tail), Dotted(nil, tail), Call("F", l)}
	items, _ := Items(List(l))
	elements, last := Spread(cons(vec(sym("B")), vec(sym("B"))))
	whole := vec(lab("1", vec(sym("B"))), ref("1"), vec(sym("B")))
	normal, _ := Normal(whole)
	plain, _ := Plain(whole)
	results = append(results, vec(items...), vec(elements...), last, normal, plain)
	var texts []string
	for _, f := range results {
		texts = append(texts, show(f))
	}
	l[1].Kids[0].Text, tail.Kids[0].Kids[0].Text, whole.Kids[0].Kids[0].Kids[0].Text = "X", "X", "X"
	for i, f := range results {
		if show(f) != texts[i] {
			t.Errorf("%s has become %s", texts[i], show(f))
		}
	}
	if show(room[2]) != show(sym("C")) {
		t.Error("memory behind the list was changed")
	}
	plain.Kids[0].Kids[0].Text = "Y"
	if show(plain.Kids[1]) != show(vec(sym("B"))) {
		t.Errorf("two parts of a result share memory: %s", show(plain))
	}
}

// P1.1: dimensions.
func TestDimensions(t *testing.T) {
	for _, c := range []struct {
		f    api.Form
		want []int
		e    api.Errno
	}{
		{str("aé€"), []int{3}, api.OK},
		{str(""), []int{0}, api.OK},
		{node(api.FormBits, "0101"), []int{4}, api.OK},
		{vec(), []int{0}, api.OK},
		{vec(num("1"), vec()), []int{2}, api.OK},
		{node(api.FormArray, "", num("1")), nil, api.OK},
		{node(api.FormArray, "2 0 2000"), []int{2, 0, 2000}, api.OK},
		{node(api.FormArray, "3", num("1")), nil, api.ErrForm},
		{str("\xff"), nil, api.ErrForm},
		{vec(num("01")), nil, api.ErrForm},
		{vec(ref("1")), nil, ErrLabel},
		{nested(101), nil, api.ErrSize},
		{cons(num("1"), num("2")), nil, api.ErrArg},
		{num("01"), nil, api.ErrArg},
		{lab("0", vec()), nil, api.ErrArg},
		{api.Form{}, nil, api.ErrArg},
	} {
		if l, e := Dimensions(c.f); !slices.Equal(l, c.want) || e != c.e {
			t.Errorf("Dimensions(%.60s) = %v, %v; want %v, %v", show(c.f), l, e, c.want, c.e)
		}
	}
}

// P1.3.
func TestSizes(t *testing.T) {
	for _, f := range []api.Form{{}, num("1"), cons(num("1"), vec(vec()), Nil()), nested(300), vec(many(3000, vec())...)} {
		nodes, depth := Size(f)
		sum, deepest := 1, 0
		for _, kid := range f.Kids {
			n, d := Size(kid)
			sum, deepest = sum+n, max(deepest, d)
		}
		if nodes != sum || depth != deepest+1 {
			t.Errorf("Size = %d, %d; want %d, %d", nodes, depth, sum, deepest+1)
		}
	}
	if nodes, depth := Size(nested(300)); nodes != 300 || depth != 300 {
		t.Errorf("Size = %d, %d", nodes, depth)
	}
	eachForm(t, func(f api.Form) {
		n, d := Size(f)
		if m, c := Size(tree.Copy(f)); n != m || d != c || n != strings.Count(show(f), ":")/2 {
			t.Errorf("Size of %s = %d, %d", show(f), n, d)
		}
	})
}
