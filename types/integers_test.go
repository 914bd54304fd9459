package types

import (
	"math/big"
	"math/rand"
	"strconv"
	"strings"
	"testing"

	"commonform/api"
	"commonform/forms"
	"commonform/number"
)

// P14.1: bounds of integers.
func TestIntegers(t *testing.T) {
	for text, want := range map[string]string{
		"T": "* *", "NIL": "", "INTEGER": "* *", "STRING": "", "RATIO": "", "FLOAT": "", "CONS": "", "BIT": "0 1", "(MOD 5)": "0 4", "(OR (MOD 5) (EQL 9) STRING)": "0 9", "(INTEGER 3)": "3 *", "(INTEGER * -3)": "* -3", "(INTEGER (3) (9))": "4 8", "(INTEGER 5 4)": "", "(INTEGER (3) (4))": "", "(INTEGER 3 3)": "3 3",
		"(REAL 1/2 7/2)": "1 3", "(REAL -7/2 -1/2)": "-3 -1", "(RATIONAL (1) (5/2))": "2 2", "(REAL 1.5 (3.0))": "2 2", "(REAL (1) (2))": "", "UNSIGNED-BYTE": "0 *", "(NOT UNSIGNED-BYTE)": "* -1", "(SIGNED-BYTE 8)": "-128 127", "(UNSIGNED-BYTE 8)": "0 255", "FIXNUM": "-1152921504606846976 1152921504606846975", "BIGNUM": "* *", "(AND BIGNUM UNSIGNED-BYTE)": "1152921504606846976 *", "(NOT (INTEGER 0 5))": "* *", "(AND (INTEGER 0 9) (NOT (MEMBER 0 1 9 5)))": "2 8", "(AND BIT (NOT (EQL 0)) (NOT (EQL 1)))": "", "(MEMBER A 7 #\\a 1.0 3)": "3 7", "(NOT (EQL 5))": "* *", "(AND (INTEGER 5) (NOT (EQL 5)))": "6 *", "(OR (CONS BIT) (EQL 4))": "4 4", "(NOT (CONS BIT))": "* *", "ATOM": "* *", "(REAL 1d300)": "0", "(AND (INTEGER 0) (REAL * 0.99))": "0 0", "(REAL (-1) (1))": "0 0",
	} {
		some, lo, hi, e := Integers(parse(t, text))
		got := ""
		if some {
			got = lo.Text + " " + hi.Text
		}
		if text == "(REAL 1d300)" {
			exact, _ := new(big.Float).SetFloat64(1e300).Int(nil)
			want = exact.String() + " *"
		}
		if e != api.OK || got != want || !some && (lo.Kind != 0 || hi.Kind != 0) {
			t.Errorf("Integers(%s) = %v, %q, %v, expected %q", text, some, got, e, want)
		}
	}
}

// P14.1: types of sums and products.
func TestPlusAndTimes(t *testing.T) {
	long := texts(200, "9")
	for _, c := range [][4]string{
		{"(MOD 3)", "(INTEGER 5 *)", "(INTEGER 5 *)", "(INTEGER 0 *)"}, {"(INTEGER -2 3)", "(INTEGER -1 4)", "(INTEGER -3 7)", "(INTEGER -8 12)"}, {"BIT", "BIT", "(INTEGER 0 2)", "(INTEGER 0 1)"}, {"(INTEGER 1 2)", "(INTEGER * 5)", "(INTEGER * 7)", "(INTEGER * 10)"}, {"INTEGER", "(EQL 0)", "(INTEGER * *)", "(INTEGER 0 0)"}, {"INTEGER", "(EQL 2)", "(INTEGER * *)", "(INTEGER * *)"}, {"INTEGER", "INTEGER", "(INTEGER * *)", "(INTEGER * *)"}, {"(INTEGER * -1)", "(INTEGER * -2)", "(INTEGER * -3)", "(INTEGER 2 *)"}, {"(INTEGER 2)", "(INTEGER * -3)", "(INTEGER * *)", "(INTEGER * -6)"}, {"(INTEGER -1)", "(INTEGER 3)", "(INTEGER 2 *)", "(INTEGER * *)"}, {"(INTEGER 0)", "(INTEGER 0)", "(INTEGER 0 *)", "(INTEGER 0 *)"}, {"(INTEGER * 0)", "(INTEGER 0)", "(INTEGER * *)", "(INTEGER * 0)"}, {"(MEMBER -5 3)", "(MEMBER -7 2)", "(INTEGER -12 5)", "(INTEGER -21 35)"}, {"(MEMBER -1 1)", "(INTEGER 4)", "(INTEGER 3 *)", "(INTEGER * *)"}, {"(INTEGER -3 -1)", "(INTEGER -3 -1)", "(INTEGER -6 -2)", "(INTEGER 1 9)"},
		{"NIL", "BIT", "NIL", "NIL"}, {"BIT", "NIL", "NIL", "NIL"}, {"NIL", "NIL", "NIL", "NIL"}, {"(INTEGER 2 1)", "INTEGER", "NIL", "NIL"}, {"NIL", "STRING", "NUMBER", "NUMBER"}, {"BIT", "RATIO", "NUMBER", "NUMBER"}, {"RATIONAL", "BIT", "NUMBER", "NUMBER"}, {"T", "BIT", "NUMBER", "NUMBER"}, {"(OR BIT NULL)", "BIT", "NUMBER", "NUMBER"}, {"(OR BIT (CONS NIL))", "BIT", "(INTEGER 0 2)", "(INTEGER 0 1)"}, {"(OR BIT (CONS BIT))", "BIT", "NUMBER", "NUMBER"}, {"(AND (RATIONAL 0 1) (NOT RATIO))", "BIT", "(INTEGER 0 2)", "(INTEGER 0 1)"}, {"(REAL 0 1)", "BIT", "NUMBER", "NUMBER"}, {"(RATIONAL 2 2)", "(EQL 3)", "(INTEGER 5 5)", "(INTEGER 6 6)"},
		{"(EQL " + long + ")", "(EQL 0)", "(INTEGER " + long + " " + long + ")", "(INTEGER 0 0)"}, {"(INTEGER 0 " + long + ")", "BIT", "(INTEGER 0 *)", "(INTEGER 0 " + long + ")"}, {"(INTEGER 0 " + long + ")", "(MEMBER -1 10)", "(INTEGER -1 *)", "(INTEGER * *)"}, {"(EQL -" + long[1:] + ")", "(EQL 1)", "(INTEGER -" + long[1:len(long)-1] + "8 -" + long[1:len(long)-1] + "8)", "(INTEGER -" + long[1:] + " -" + long[1:] + ")"}, {"(EQL -" + long[1:] + ")", "(EQL -1)", "(INTEGER * *)", "(INTEGER " + long[1:] + " " + long[1:] + ")"},
	} {
		a, b := parse(t, c[0]), parse(t, c[1])
		for i, f := range []func(a, b api.Form) (api.Form, api.Errno){Plus, Times} {
			for _, pair := range [][2]api.Form{{a, b}, {b, a}} {
				if x, e := f(pair[0], pair[1]); e != api.OK || !forms.Equal(x, parse(t, c[2+i])) {
					t.Errorf("%d of %.50s and %.50s = %.50s, %v, expected %.50s", i, c[0], c[1], show(x), e, c[2+i])
				}
			}
		}
	}
}

// P14.5: bounds by chance: they are of the type, and no integer lies beyond them; sums and products are of Plus and Times.
func TestIntegerLaws(t *testing.T) {
	m, objects := maker{rand.New(rand.NewSource(4))}, pool(t)
	for range 2000 {
		a, b := parse(t, m.specifier(2, 1)), parse(t, m.specifier(2, 1))
		some, lo, hi, e := Integers(a)
		if e != api.OK {
			t.Fatal(e)
		}
		for i, bound := range []api.Form{lo, hi} {
			if some && bound.Kind == api.FormInt && !isMember(bound, a) || some && bound.Kind != api.FormInt && !forms.Is(bound, lisp, "*") {
				t.Fatalf("Integers(%s): the bound %d is %s", show(a), i, show(bound))
			}
			for _, far := range []string{"-9", "9"} { // beyond all numbers of the types there are all, or none
				x := parse(t, far+texts(200, "0"))
				if some && bound.Kind != api.FormInt && (i == 1) == (far == "9") && !isMember(x, a) {
					t.Fatalf("Integers(%s): %d is *, but %s is not of it", show(a), i, far)
				}
			}
		}
		sums, _ := Plus(a, b)
		products, _ := Times(a, b)
		for range 60 {
			x, y := objects[m.Intn(len(objects))], objects[m.Intn(len(objects))]
			if x.Kind == api.FormInt && isMember(x, a) {
				if !some || !inBounds(x, call("INTEGER", lo, hi)) {
					t.Fatalf("Integers(%s) = %v, %s, %s, but %s is of it", show(a), some, show(lo), show(hi), show(x))
				}
			}
			if number.Check(x) != api.OK || number.Check(y) != api.OK || !isMember(x, a) || !isMember(y, b) {
				continue
			}
			if sum, e := number.Add(x, y); e == api.OK && !isMember(sum, sums) {
				t.Fatalf("%s + %s is not of Plus(%s, %s) = %s", show(x), show(y), show(a), show(b), show(sums))
			}
			if product, e := number.Mul(x, y); e == api.OK && !isMember(product, products) {
				t.Fatalf("%s * %s is not of Times(%s, %s) = %s", show(x), show(y), show(a), show(b), show(products))
			}
		}
	}
}

// P14.5: the ends of Plus and Times are attained, if there are few integers.
func TestAttained(t *testing.T) {
	r := rand.New(rand.NewSource(5))
	for range 500 {
		var sets [2][]int
		var specifiers [2]api.Form
		for i := range sets {
			var l []string
			for range 1 + r.Intn(4) {
				n := r.Intn(21) - 10
				sets[i] = append(sets[i], n)
				l = append(l, strconv.Itoa(n))
			}
			specifiers[i] = parse(t, "(MEMBER "+strings.Join(l, " ")+")")
		}
		sum, product := [2]int{1000, -1000}, [2]int{1000, -1000}
		for _, x := range sets[0] {
			for _, y := range sets[1] {
				sum = [2]int{min(sum[0], x+y), max(sum[1], x+y)}
				product = [2]int{min(product[0], x*y), max(product[1], x*y)}
			}
		}
		plus, _ := Plus(specifiers[0], specifiers[1])
		times, _ := Times(specifiers[0], specifiers[1])
		for i, x := range []api.Form{plus, times} {
			want := [][2]int{sum, product}[i]
			if !forms.Equal(x, call("INTEGER", whole(want[0]), whole(want[1]))) {
				t.Fatalf("%v and %v: %s, expected %v", sets[0], sets[1], show(x), want)
			}
		}
	}
}

// P1: no function panics, and with an error every other result is its zero value.
func TestAnyArguments(t *testing.T) {
	r := rand.New(rand.NewSource(6))
	var tree func(depth int) api.Form
	tree = func(depth int) api.Form {
		words := strings.Fields("AND OR NOT CONS INTEGER REAL EQL MEMBER STRING ARRAY VECTOR MOD * T NIL BIT 1 -1 1/2 3f800000 %  BUILTIN")
		f := api.Form{Kind: r.Intn(16) - 1, Text: words[r.Intn(len(words))], Home: []string{"", lisp, lisp, "%", "KEYWORD"}[r.Intn(5)]}
		if r.Intn(3) > 0 {
			f = []api.Form{name(words[r.Intn(16)]), whole(r.Intn(5)), forms.Nil(), {Kind: api.FormCons}}[r.Intn(4)]
		}
		for range r.Intn(4) * min(depth, 1) {
			f.Kids = append(f.Kids, tree(depth-1))
		}
		if f.Kind == api.FormCons && len(f.Kids) > 0 {
			f.Kids = append([]api.Form{name(words[r.Intn(16)])}, append(f.Kids, forms.Nil())...)
		}
		return f
	}
	right := 0
	for range 20000 {
		a, b := tree(3), tree(3)
		bad := Check(a)
		if bad == api.OK {
			right++
		}
		if is, w, e := Subtypep(a, b); e != api.OK && (is || w.Kind != 0) || bad != api.OK && e != bad {
			t.Fatalf("Subtypep(%s, %s): %v, %v, %v", show(a), show(b), is, w, e)
		}
		if is, e := Typep(a, b); e != api.OK && is {
			t.Fatalf("Typep(%s, %s): %v", show(a), show(b), e)
		}
		if x, e := Of(a); e != api.OK && x.Kind != 0 || e == api.OK && Check(x) != api.OK {
			t.Fatalf("Of(%s): %s, %v", show(a), show(x), e)
		}
		if some, lo, _, e := Integers(a); e != api.OK && (some || lo.Kind != 0) {
			t.Fatalf("Integers(%s): %v", show(a), e)
		}
		if x, e := Times(a, b); e != api.OK && x.Kind != 0 || e == api.OK && Check(x) != api.OK {
			t.Fatalf("Times(%s, %s): %s, %v", show(a), show(b), show(x), e)
		}
		if l, e := Samples([]api.Form{a, b}); e != api.OK && l != nil {
			t.Fatalf("Samples(%s, %s): %v", show(a), show(b), e)
		}
	}
	if right < 300 {
		t.Errorf("only %d of the trees were types", right)
	}
}
