package sequence

import (
	"strings"
	"testing"

	"commonform/api"
	"commonform/number"
)

// equal is the test Same by the trees themselves.
func equal(x, y api.Form) bool { return show(x) == show(y) && shape(x) == shape(y) }

// shape returns what show may mix up: the lengths of the texts, and the numbers of Kids.
func shape(x api.Form) string {
	text := strings.Repeat("t", len(x.Text)) + strings.Repeat("h", len(x.Home))
	for _, kid := range x.Kids {
		text += "(" + shape(kid) + ")"
	}
	return text
}

// loose is the test Loose by the words of the document.
func loose(x, y api.Form) bool {
	if equal(x, y) {
		return true
	}
	if number.Check(x) == api.OK && number.Check(y) == api.OK {
		is, _ := number.Equals(x, y)
		return is
	}
	if x.Kind != y.Kind {
		return false
	}
	switch x.Kind {
	case api.FormChar, api.FormString:
		upper := func(r rune) rune {
			if r >= 'a' && r <= 'z' {
				return r - 32
			}
			return r
		}
		return strings.Map(upper, x.Text) == strings.Map(upper, y.Text)
	case api.FormCons, api.FormVector:
		if len(x.Kids) != len(y.Kids) {
			return false
		}
		for i := range x.Kids {
			if !loose(x.Kids[i], y.Kids[i]) {
				return false
			}
		}
		return true
	}
	return false
}

func likeness(test int) func(x, y api.Form) bool {
	if test == Same {
		return equal
	}
	return loose
}

// P12.1, P12.2: both tests, of any two elements; they are equivalences, and what is alike by Same is alike by Loose.
func TestAlike(t *testing.T) {
	pool := elementsOf()
	for _, test := range []int{Same, Loose} {
		for _, x := range pool {
			for _, y := range pool {
				is, e := Alike(test, x, y)
				if e != api.OK || is != likeness(test)(x, y) {
					t.Errorf("Alike(%d, %s, %s) = %v, %v", test, show(x), show(y), is, e)
				}
				for _, z := range pool {
					next, _ := Alike(test, y, z)
					both, _ := Alike(test, x, z)
					if is && next != both {
						t.Errorf("Alike(%d) is not transitive for %s, %s, %s", test, show(x), show(y), show(z))
					}
				}
			}
		}
	}
	if is, e := Alike(Same, cons(str("ab"), str("")), cons(str("a"), str("b"))); is || e != api.OK {
		t.Errorf("texts run together: %v, %v", is, e)
	}
	for _, test := range []int{-1, 2} {
		if is, e := Alike(test, num(1), num(1)); is || e != api.ErrArg {
			t.Errorf("Alike(%d): %v, %v", test, is, e)
		}
	}
}

// P12.1: examples of Alike.
func TestAlikeExamples(t *testing.T) {
	for _, c := range []struct {
		x, y        api.Form
		same, loose bool
	}{
		{str("ab"), str("Ab"), false, true}, {num(1), node(api.FormSingle, "3f800000"), false, true}, {num(1), num(1), true, true}, {char("z"), char("Z"), false, true},
		{char("@"), char("`"), false, false}, {char("["), char("{"), false, false}, {str("é"), str("É"), false, false}, {char("a"), str("a"), false, false},
		{node(api.FormSingle, "80000000"), num(0), false, true}, {node(api.FormSingle, "7f800000"), node(api.FormSingle, "7f800000"), true, true},
		{list(str("a")), list(str("A")), false, true}, {vec(str("a")), vec(str("A")), false, true}, {list(num(1)), vec(num(1), nothing()), false, false},
		{node(api.FormArray, "1 1", str("a")), node(api.FormArray, "1 1", str("A")), false, false},
		{api.Form{Kind: api.FormCons, Text: "x", Kids: []api.Form{num(1)}}, cons(num(1)), false, true}, {api.Form{Kind: api.FormSymbol, Text: "a"}, api.Form{Kind: api.FormSymbol, Text: "A"}, false, false},
	} {
		same, _ := Alike(Same, c.x, c.y)
		loose, _ := Alike(Loose, c.x, c.y)
		if same != c.same || loose != c.loose {
			t.Errorf("Alike of %s and %s: %v, %v", show(c.x), show(c.y), same, loose)
		}
	}
}

// P12.1: examples of Less, and what it does not take.
func TestLess(t *testing.T) {
	half := node(api.FormRatio, "1/2")
	for _, c := range []struct {
		order int
		x, y  api.Form
		want  bool
		e     api.Errno
	}{
		{Numbers, num(9), num(10), true, api.OK}, {Numbers, num(10), num(9), false, api.OK}, {Numbers, num(1), num(1), false, api.OK},
		{Numbers, half, node(api.FormSingle, "3f000001"), true, api.OK}, {Numbers, half, node(api.FormDouble, "3fe0000000000000"), false, api.OK}, {Numbers, node(api.FormSingle, "80000000"), num(0), false, api.OK},
		{Numbers, node(api.FormComplex, "", num(1), num(2)), num(1), false, api.ErrType}, {Numbers, num(1), node(api.FormComplex, "", num(1), num(2)), false, api.ErrType},
		{Numbers, node(api.FormInt, "01"), num(5), false, api.ErrType}, {Numbers, num(5), node(api.FormSingle, "7f800000"), false, api.ErrType}, {Numbers, str("1"), num(5), false, api.ErrType},
		{Characters, char("a"), char("b"), true, api.OK}, {Characters, char("a"), char("B"), false, api.OK}, {Characters, char("z"), char("é"), true, api.OK}, {Characters, char("a"), str("b"), false, api.ErrType}, {Characters, str("a"), char("b"), false, api.ErrType},
		{Strings, str("a"), str("ab"), true, api.OK}, {Strings, str("ab"), str("a"), false, api.OK}, {Strings, str("Ab"), str("ab"), true, api.OK}, {Strings, str(""), str(""), false, api.OK}, {Strings, str("b"), str("ab"), false, api.OK}, {Strings, char("a"), str("b"), false, api.ErrType}, {Strings, str("a"), num(1), false, api.ErrType},
		{-1, num(1), num(2), false, api.ErrArg}, {3, num(1), str("a"), false, api.ErrArg},
	} {
		if is, e := Less(c.order, c.x, c.y); is != c.want || e != c.e {
			t.Errorf("Less(%d, %s, %s) = %v, %v, expected %v, %v", c.order, show(c.x), show(c.y), is, e, c.want, c.e)
		}
	}
}

// P12.2: Less is transitive, and never holds both ways; it is an error just if it is one for an element and itself.
func TestLessLaws(t *testing.T) {
	pool := append(elementsOf(), num(3), node(api.FormRatio, "-1/3"), str("abc"), char("Z"))
	for order := range orders {
		for _, x := range pool {
			for _, y := range pool {
				is, e := Less(order, x, y)
				_, first := Less(order, x, x)
				_, second := Less(order, y, y)
				if (e == api.OK) != (first == api.OK && second == api.OK) || e != api.OK && (is || e != api.ErrType) {
					t.Fatalf("Less(%d, %s, %s) = %v, %v", order, show(x), show(y), is, e)
				}
				if other, _ := Less(order, y, x); is && other {
					t.Errorf("Less(%d) of %s and %s holds both ways", order, show(x), show(y))
				}
				for _, z := range pool {
					next, _ := Less(order, y, z)
					if both, _ := Less(order, x, z); is && next && !both {
						t.Errorf("Less(%d) is not transitive for %s, %s, %s", order, show(x), show(y), show(z))
					}
				}
			}
		}
	}
}

// P12.1: keys.
func TestTaken(t *testing.T) {
	one, two, three := num(1), num(2), num(3)
	for _, c := range []struct {
		key  int
		x    api.Form
		want api.Form
		e    api.Errno
	}{
		{Whole, one, one, api.OK}, {Whole, api.Form{}, api.Form{}, api.OK}, {Whole, cons(), cons(), api.OK},
		{First, list(one, two), one, api.OK}, {First, cons(one), one, api.OK}, {First, cons(), api.Form{}, api.ErrType}, {First, vec(one), api.Form{}, api.ErrType}, {First, one, api.Form{}, api.ErrType}, {First, nothing(), api.Form{}, api.ErrType},
		{Second, list(one, two), two, api.OK}, {Second, cons(one, two, three), two, api.OK}, {Second, cons(one, two), api.Form{}, api.ErrType}, {Second, list(one), api.Form{}, api.ErrType},
		{Second, cons(one, cons(two, three)), two, api.OK}, {Second, cons(one, cons()), api.Form{}, api.ErrType}, {Second, cons(cons(two)), two, api.OK}, {Second, cons(one), api.Form{}, api.ErrType}, {Second, cons(), api.Form{}, api.ErrType}, {Second, vec(one, two, three), api.Form{}, api.ErrType}, {Second, cons(one, vec(two)), api.Form{}, api.ErrType},
		{Length, vec(), num(0), api.OK}, {Length, vec(one, two), num(2), api.OK}, {Length, str("é"), num(2), api.OK}, {Length, str(""), num(0), api.OK}, {Length, list(one, two), num(2), api.OK}, {Length, cons(one), num(0), api.OK}, {Length, cons(), num(-1), api.OK},
		{Length, nothing(), api.Form{}, api.ErrType}, {Length, node(api.FormBits, "1"), api.Form{}, api.ErrType}, {Length, char("a"), api.Form{}, api.ErrType}, {Length, node(api.FormArray, "1 1", one), api.Form{}, api.ErrType},
		{-1, one, api.Form{}, api.ErrArg}, {4, one, api.Form{}, api.ErrArg},
	} {
		if x, e := Taken(c.key, c.x); e != c.e || !equal(x, c.want) {
			t.Errorf("Taken(%d, %s) = %s, %v, expected %s, %v", c.key, show(c.x), show(x), e, show(c.want), c.e)
		}
	}
	x := list(vec(one))
	key, _ := Taken(First, x)
	key.Kids[0] = two
	if brief(x.Kids[:1]) != "(1)" {
		t.Errorf("Taken shares memory with its argument")
	}
}
