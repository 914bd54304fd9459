package forms

import (
	"strconv"
	"testing"

	"commonform/api"
	"commonform/tree"
)

// P1.1: the examples of the chapter, and what a label stands for.
func TestNormalExamples(t *testing.T) {
	a, b, v := sym("A"), sym("B"), vec()
	complexNumber := complexOf(num("1"), num("2"))
	for _, c := range []struct{ f, want api.Form }{
		{cons(a, lab("1", cons(b, Nil()))), cons(a, b, Nil())},
		{cons(a, lab("1", cons(b, lab("2", cons(a, b))))), cons(a, b, a, b)},
		{cons(a, lab("1", cons(b, Nil()))), List([]api.Form{a, b})},
		{lab("5", cons(a, ref("5"))), lab("0", cons(a, ref("0")))},
		{vec(lab("3", v), lab("7", v), ref("7")), vec(v, lab("0", v), ref("0"))},
		{vec(lab("9", vec(lab("8", v), ref("8"))), ref("9"), ref("8")), vec(lab("0", vec(lab("1", v), ref("1"))), ref("0"), ref("1"))},
		{vec(lab("1", a), ref("1")), vec(a, a)},
		{vec(lab("1", num("5")), ref("1")), vec(num("5"), num("5"))},
		{vec(lab("1", node(api.FormChar, "x")), ref("1")), vec(node(api.FormChar, "x"), node(api.FormChar, "x"))},
		{vec(lab("1", complexNumber), ref("1")), vec(complexNumber, complexNumber)},
		{vec(lab("1", str("x")), ref("1")), vec(lab("0", str("x")), ref("0"))},
		{vec(lab("1", node(api.FormBits, "")), ref("1")), vec(lab("0", node(api.FormBits, "")), ref("0"))},
		{vec(lab("1", node(api.FormArray, "", a)), ref("1")), vec(lab("0", node(api.FormArray, "", a)), ref("0"))},
		{cons(lab("1", Nil()), ref("1")), cons(Nil(), Nil())},
		{cons(a, lab("1", cons(b, ref("1")))), cons(a, lab("0", cons(b, ref("0"))))},
	} {
		if f, e := Normal(c.f); e != api.OK || !Equal(f, c.want) {
			t.Errorf("Normal(%s) = %s, %v; want %s", show(c.f), show(f), e, show(c.want))
		}
	}
}

// P1.1: a complex number in the place of a reference makes a form larger and deeper.
func TestNormalGrows(t *testing.T) {
	label := lab("0", complexOf(num("1"), num("2")))
	kids := append([]api.Form{label}, many(600, ref("0"))...)
	if f, e := Normal(vec(kids...)); e != api.OK || len(f.Kids) != 601 {
		t.Errorf("Normal: %v", e)
	}
	kids = append(kids, many(300, ref("0"))...)
	for _, f := range []api.Form{vec(kids...), vec(label, deep(98, ref("0")))} {
		if e := Check(f); e != api.OK {
			t.Fatalf("Check: %v", e)
		}
		if _, e := Normal(f); e != api.ErrSize {
			t.Errorf("Normal: %v; want ErrSize", e)
		}
		if _, e := Same(vec(), f); e != api.ErrSize {
			t.Errorf("Same: %v; want ErrSize", e)
		}
	}
	if _, e := Normal(vec(label, deep(97, ref("0")))); e != api.OK {
		t.Errorf("Normal: %v", e)
	}
}

// deep returns f within so many vectors.
func deep(n int, f api.Form) api.Form {
	for range n {
		f = vec(f)
	}
	return f
}

// renumber returns a form whose labels have other numbers.
func renumber(f api.Form) api.Form {
	f = tree.Copy(f)
	if f.Kind == api.FormLabel || f.Kind == api.FormRef {
		n, _ := strconv.Atoi(f.Text)
		f.Text = strconv.Itoa(999 - n)
	}
	for i, kid := range f.Kids {
		f.Kids[i] = renumber(kid)
	}
	return f
}

// P1.4.
func TestNormalLaws(t *testing.T) {
	eachForm(t, func(f api.Form) {
		n, e := Normal(f)
		if e != api.OK {
			t.Fatalf("Normal(%s): %v", show(f), e)
		}
		if e := Check(n); e != api.OK {
			t.Errorf("Normal(%s) = %s: %v", show(f), show(n), e)
		}
		if again, _ := Normal(n); !Equal(again, n) {
			t.Errorf("Normal of Normal of %s is %s", show(f), show(again))
		}
		if count(n, api.FormLabel) > count(f, api.FormLabel) {
			t.Errorf("Normal(%s) has more labels: %s", show(f), show(n))
		}
		if other, _ := Normal(renumber(f)); !Equal(other, n) {
			t.Errorf("Normal of %s, renumbered, is %s", show(f), show(other))
		}
		if count(f, api.FormLabel) == 0 && !Equal(n, f) {
			t.Errorf("Normal(%s) = %s", show(f), show(n))
		}
		next := 0
		for _, node := range walk(n) {
			if node.Kind == api.FormLabel {
				if node.Text != strconv.Itoa(next) {
					t.Errorf("labels of %s", show(n))
				}
				next++
			}
		}
	})
}

// P1.5.
func TestSame(t *testing.T) {
	var last api.Form
	eachForm(t, func(f api.Form) {
		if same, e := Same(f, renumber(f)); !same || e != api.OK {
			t.Errorf("%s is not the same, renumbered: %v", show(f), e)
		}
		wrapped := lab("999", f)
		if f.Kind != api.FormLabel && f.Kind != api.FormRef {
			if same, e := Same(f, wrapped); !same || e != api.OK {
				t.Errorf("%s is not the same with a label: %v", show(f), e)
			}
		}
		there, _ := Same(f, last)
		if back, _ := Same(last, f); there != back {
			t.Errorf("Same of %s and %s is not symmetric", show(f), show(last))
		}
		last = f
	})
	l := cons(sym("A"), Nil())
	for _, c := range []struct {
		x, y api.Form
		want bool
	}{
		{vec(lab("1", l), ref("1")), vec(l, l), false},
		{vec(lab("1", str("")), ref("1")), vec(str(""), str("")), false},
		{vec(lab("1", sym("A")), ref("1")), vec(sym("A"), sym("A")), true},
		{vec(lab("1", num("1")), ref("1")), vec(num("1"), num("1")), true},
		{vec(lab("1", node(api.FormChar, "a")), ref("1")), vec(node(api.FormChar, "a"), node(api.FormChar, "a")), true},
		{vec(), cons(Nil(), Nil()), false},
	} {
		if same, e := Same(c.x, c.y); same != c.want || e != api.OK {
			t.Errorf("Same(%s, %s) = %v, %v", show(c.x), show(c.y), same, e)
		}
	}
	if _, e := Same(num("01"), nested(101)); e != api.ErrForm {
		t.Errorf("Same: %v; want the error of the first one", e)
	}
	if _, e := Same(vec(), nested(101)); e != api.ErrSize {
		t.Errorf("Same: %v; want the error of the second one", e)
	}
	if f, e := Normal(ref("0")); e != ErrLabel || !Equal(f, api.Form{}) {
		t.Errorf("Normal = %s, %v", show(f), e)
	}
}

// P1.1 and P1.6.
func TestPlain(t *testing.T) {
	a, b := sym("A"), sym("B")
	l := cons(a, Nil())
	for _, c := range []struct{ f, want api.Form }{
		{vec(lab("1", l), ref("1")), vec(l, l)},
		{cons(lab("1", l), ref("1")), cons(l, a, Nil())},
		{cons(a, lab("1", cons(b, lab("2", cons(a, b))))), cons(a, b, a, b)},
		{vec(lab("1", vec(lab("2", l), ref("2"))), ref("2"), ref("1")), vec(vec(l, l), l, vec(l, l))},
	} {
		if f, e := Plain(c.f); e != api.OK || !Equal(f, c.want) {
			t.Errorf("Plain(%s) = %s, %v; want %s", show(c.f), show(f), e, show(c.want))
		}
	}
	for _, c := range []struct {
		f    api.Form
		want api.Errno
	}{
		{lab("5", cons(a, ref("5"))), ErrCircle},
		{lab("5", vec(vec(lab("6", vec(ref("5")))))), ErrCircle},
		{vec(lab("1", deep(60, a)), lab("2", vec(ref("2")))), ErrCircle},
		{vec(doubling(30), lab("99", vec(ref("99")))), ErrCircle},
		{doubling(30), api.ErrSize},
		{doubling(333), api.ErrSize},
		{vec(lab("1", deep(60, a)), deep(60, ref("1"))), api.ErrSize},
		{num("x"), api.ErrForm},
		{ref("1"), ErrLabel},
	} {
		if f, e := Plain(c.f); e != c.want || !Equal(f, api.Form{}) {
			t.Errorf("Plain(%.80s) = %.80s, %v; want %v", show(c.f), show(f), e, c.want)
		}
	}
	if f, e := Plain(vec(lab("1", deep(60, a)), deep(38, ref("1")))); e != api.OK || Check(f) != api.OK {
		t.Errorf("Plain at the greatest depth: %v", e)
	}
}

// doubling returns a small form whose Plain has more than 2^n nodes.
func doubling(n int) api.Form {
	kids := []api.Form{lab("100", vec())}
	for i := range n {
		last := ref(strconv.Itoa(100 + i))
		kids = append(kids, lab(strconv.Itoa(101+i), vec(last, last)))
	}
	return vec(kids...)
}

// P1.1: the most nodes and the greatest depth, where the elements of a tail stand in the place of a list.
func TestPlainOfTails(t *testing.T) {
	a := sym("A")
	for _, c := range []struct {
		l, more int
		want    api.Errno
	}{{997, 0, api.OK}, {997, 1, api.ErrSize}, {996, 2, api.OK}, {996, 3, api.ErrSize}} {
		// the vector, the list with its tail, that list again behind one element in the place of its own tail, and more
		l := cons(append(many(c.l, a), sym("B"))...)
		f := vec(append([]api.Form{lab("1", l), cons(a, ref("1"))}, many(c.more, a)...)...)
		p, e := Plain(f)
		if n, _ := Size(p); e != c.want || e == api.OK && n != 2000 {
			t.Errorf("Plain: %d nodes, %v; want %v", n, e, c.want)
		}
	}
	for _, c := range []struct {
		depth int
		want  api.Errno
	}{{38, api.OK}, {39, api.ErrSize}} {
		f := vec(lab("1", cons(deep(59, vec()), a)), deep(c.depth, cons(a, ref("1"))))
		p, e := Plain(f)
		if _, depth := Size(p); e != c.want || e == api.OK && depth != 100 {
			t.Errorf("Plain: a depth of %d, %v; want %v", depth, e, c.want)
		}
	}
}

// P1.6.
func TestPlainLaws(t *testing.T) {
	eachForm(t, func(f api.Form) {
		p, e := Plain(f)
		n, _ := Normal(f)
		q, d := Plain(n)
		if e != d || !Equal(p, q) {
			t.Errorf("Plain of Normal of %s = %s, %v; want %s, %v", show(f), show(q), d, show(p), e)
		}
		if e == api.OK && (Check(p) != api.OK || count(p, api.FormLabel)+count(p, api.FormRef) > 0) {
			t.Errorf("Plain of %s = %s", show(f), show(p))
		}
		if count(f, api.FormLabel) == 0 && !Equal(p, f) {
			t.Errorf("Plain of %s = %s", show(f), show(p))
		}
		if again, _ := Plain(renumber(f)); !Equal(again, p) {
			t.Errorf("Plain of %s, renumbered, = %s", show(f), show(again))
		}
	})
}
