package forms

import (
	"reflect"
	"slices"
	"strconv"
	"testing"

	"commonform/api"
	"commonform/tree"
)

func sameGraph(a, b []Node) bool {
	return slices.EqualFunc(a, b, func(x, y Node) bool {
		return x.Kind == y.Kind && x.Text == y.Text && x.Home == y.Home && slices.Equal(x.Kids, y.Kids)
	})
}

func graphOf(t *testing.T, f api.Form) []Node {
	t.Helper()
	g, e := Nodes(f)
	if e != api.OK {
		t.Fatalf("Nodes(%s): %v", show(f), e)
	}
	return g
}

// eachGraph calls a test with the graphs of many forms.
func eachGraph(t *testing.T, test func(f api.Form, g []Node)) {
	t.Helper()
	eachForm(t, func(f api.Form) { test(f, graphOf(t, f)) })
}

// P1.1.
func TestNodes(t *testing.T) {
	a, one := sym("A"), num("1")
	c, v, x := api.FormCons, api.FormVector, Node{Kind: api.FormString, Text: "x"}
	A, i := Node{Kind: api.FormSymbol, Text: "A", Home: "USER"}, Node{Kind: api.FormInt, Text: "1"}
	for _, k := range []struct {
		f    api.Form
		want []Node
	}{
		{lab("0", cons(a, ref("0"))), []Node{{Kind: c, Kids: []int{1, 0}}, A}},
		{cons(str("x"), str("x"), one), []Node{{Kind: c, Kids: []int{1, 2}}, x, {Kind: c, Kids: []int{3, 4}}, x, i}},
		{cons(lab("3", str("x")), ref("3"), one), []Node{{Kind: c, Kids: []int{1, 2}}, x, {Kind: c, Kids: []int{1, 3}}, i}},
		{vec(a, a, one, one), []Node{{Kind: v, Kids: []int{1, 1, 2, 3}}, A, i, i}},
		{vec(lab("0", one), ref("0")), []Node{{Kind: v, Kids: []int{1, 2}}, i, i}},
		{vec(lab("0", complexOf(one, one)), ref("0")), []Node{{Kind: v, Kids: []int{1, 4}}, {Kind: api.FormComplex, Kids: []int{2, 3}}, i, i, {Kind: api.FormComplex, Kids: []int{5, 6}}, i, i}},
		{vec(lab("0", a), ref("0")), []Node{{Kind: v, Kids: []int{1, 1}}, A}},
		{cons(a, lab("1", cons(one, ref("1")))), []Node{{Kind: c, Kids: []int{1, 2}}, A, {Kind: c, Kids: []int{3, 2}}, i}},
		{node(api.FormArray, "1 1", a), []Node{{Kind: api.FormArray, Text: "1 1", Kids: []int{1}}, A}},
		{vec(a, Symbol("", "A")), []Node{{Kind: v, Kids: []int{1, 2}}, A, {Kind: api.FormSymbol, Text: "A"}}},
		{one, []Node{i}},
	} {
		if g, e := Nodes(k.f); e != api.OK || !sameGraph(g, k.want) {
			t.Errorf("Nodes(%s) = %v, %v; want %v", show(k.f), g, e, k.want)
		}
	}
	if _, e := Nodes(num("x")); e != api.ErrForm {
		t.Errorf("Nodes of a wrong form: %v", e)
	}
	if g, e := Nodes(cons(many(1000, one)...)); e != api.OK || len(g) != 1999 {
		t.Errorf("%d nodes, %v", len(g), e)
	}
	if g, e := Nodes(vec(many(1999, one)...)); e != api.OK || len(g) != 2000 {
		t.Errorf("%d nodes, %v", len(g), e)
	}
	if g, e := Nodes(cons(many(1001, one)...)); e != api.ErrSize || g != nil {
		t.Errorf("%d nodes, %v; want ErrSize", len(g), e)
	}
}

// P1.1: which graphs are right.
func TestCheckGraph(t *testing.T) {
	c, v := api.FormCons, api.FormVector
	one, A, s := Node{Kind: api.FormInt, Text: "1"}, Node{Kind: api.FormSymbol, Text: "A"}, Node{Kind: api.FormString}
	single := Node{Kind: api.FormSingle, Text: "00000000"}
	right := [][]Node{
		{one}, {A}, {s}, {{Kind: v}},
		{{Kind: v, Kids: []int{0, 0}}},
		{{Kind: c, Kids: []int{1, 2}}, A, {Kind: c, Kids: []int{1, 0}}},
		{{Kind: v, Kids: []int{1, 1, 2}}, s, s},
		{{Kind: api.FormArray, Text: "2 1", Kids: []int{1, 1}}, A},
		{{Kind: api.FormComplex, Kids: []int{1, 2}}, single, single},
		{{Kind: v, Kids: slices.Repeat([]int{1}, 5000)}, A},
	}
	for _, g := range right {
		if e := CheckGraph(g); e != api.OK {
			t.Errorf("CheckGraph(%.90v) = %v", g, e)
		}
	}
	long := make([]Node, 2001)
	for i := range long {
		long[i] = Node{Kind: v, Kids: []int{min(i+1, 2000)}}
	}
	if e := CheckGraph(long[1:]); e != api.ErrForm {
		t.Errorf("nodes out of order: %v", e)
	}
	long[1999].Kids = nil
	if e := CheckGraph(long[:2000]); e != api.OK {
		t.Errorf("2000 nodes: %v", e)
	}
	wrong := [][]Node{
		nil, {}, long,
		{{}}, {{Kind: api.FormLabel, Text: "0", Kids: []int{0}}}, {{Kind: api.FormRef, Text: "0"}}, {{Kind: 15}}, {{Kind: -1}},
		{{Kind: api.FormInt, Text: "01"}}, {{Kind: api.FormInt, Text: "1", Home: "H"}}, {{Kind: api.FormString, Text: "\xff"}}, {{Kind: api.FormString, Kids: []int{0}}}, {{Kind: v, Text: "x"}},
		{{Kind: c, Kids: []int{1}}, A}, {{Kind: c, Kids: []int{1, 1, 1}}, A}, {{Kind: c}},
		{{Kind: v, Kids: []int{1}}}, {{Kind: v, Kids: []int{-1}}},
		{{Kind: v, Kids: []int{1, 2}}, A, A},
		{{Kind: v, Kids: []int{1, 1}}, one},
		{{Kind: v, Kids: []int{1, 1}}, {Kind: api.FormChar, Text: "a"}},
		{{Kind: v, Kids: []int{2, 1}}, A, s},
		{{Kind: v, Kids: []int{1}}, A, s},
		{{Kind: v}, A},
		{{Kind: v, Kids: []int{1, 2}}, {Kind: v, Kids: []int{3}}, s, A},
		{{Kind: api.FormComplex, Kids: []int{1, 1}}, single},
		{{Kind: api.FormComplex, Kids: []int{1, 2}}, single, one},
		{{Kind: api.FormComplex, Kids: []int{1, 2}}, one, {Kind: api.FormInt, Text: "0"}},
		{{Kind: api.FormComplex, Kids: []int{1, 2}}, A, one},
		{{Kind: api.FormArray, Text: "2 1", Kids: []int{1}}, A}, {{Kind: api.FormArray, Text: "2", Kids: []int{1, 1}}, A},
	}
	for _, g := range wrong {
		if e := CheckGraph(g); e != api.ErrForm {
			t.Errorf("CheckGraph(%.90v) = %v; want ErrForm", g, e)
		}
		if _, e := Build(g); e != api.ErrForm {
			t.Errorf("Build(%.90v): %v; want ErrForm", g, e)
		}
		if _, e := Part(g, -1); e != api.ErrForm {
			t.Errorf("Part of %.90v: %v; want ErrForm", g, e)
		}
		if _, e := Coalesce(g); e != api.ErrForm {
			t.Errorf("Coalesce of %.90v: %v; want ErrForm", g, e)
		}
	}
}

// P1.1: the errors of a graph, and then of an index.
func TestGraphErrors(t *testing.T) {
	good, bad := []Node{{Kind: api.FormVector, Kids: []int{1}}, {Kind: api.FormString}}, []Node{{}}
	for _, c := range []struct {
		g    []Node
		i    int
		want api.Errno
	}{{good, -1, api.ErrArg}, {good, 2, api.ErrArg}, {bad, 5, api.ErrForm}, {good, 1, api.OK}} {
		_, e := Part(c.g, c.i)
		circular, f := Circular(c.g, c.i)
		_, last, h := Cars(c.g, c.i)
		if e != c.want || f != c.want || h != c.want || h != api.OK && last != 0 || circular {
			t.Errorf("errors of the index %d: %v, %v, %v; want %v", c.i, e, f, h, c.want)
		}
		for name, relation := range map[string]func([]Node, int, int) (bool, api.Errno){"Eql": Eql, "Alike": Alike, "Similar": Similar} {
			if is, e := relation(c.g, c.i, 0); e != c.want || is {
				t.Errorf("%s of the index %d: %v, %v; want %v", name, c.i, is, e, c.want)
			}
			if is, e := relation(c.g, 1, c.i); e != c.want || is != (c.want == api.OK) {
				t.Errorf("%s of the second index %d: %v, %v; want %v", name, c.i, is, e, c.want)
			}
		}
	}
	if _, e := Shared(bad); e != api.ErrForm {
		t.Errorf("Shared: %v", e)
	}
}

// P1.1: limits of Build.
func TestBuildLimits(t *testing.T) {
	for _, n := range []int{1999, 2000, 100000} {
		g := []Node{{Kind: api.FormVector, Kids: slices.Repeat([]int{1}, n)}, {Kind: api.FormSymbol, Text: "A"}}
		want := api.OK
		if n > 1999 {
			want = api.ErrSize
		}
		if _, e := Build(g); e != want {
			t.Errorf("Build with %d parts: %v; want %v", n, e, want)
		}
	}
	for _, n := range []int{99, 100} { // vectors within vectors
		g := []Node{{Kind: api.FormVector}}
		for range n {
			g[len(g)-1].Kids = []int{len(g)}
			g = append(g, Node{Kind: api.FormVector})
		}
		want := api.OK
		if n > 99 {
			want = api.ErrSize
		}
		if _, e := Build(g); e != want {
			t.Errorf("Build with a depth of %d: %v; want %v", n+1, e, want)
		}
	}
	for _, n := range []int{999, 1000} { // a vector without a label, and n strings, each twice; 1 + 3n nodes are too many from 667 on
		want := api.OK
		if n > 666 {
			want = api.ErrSize
		}
		if _, e := Build(twice(n)); e != want {
			t.Errorf("Build with %d labels: %v; want %v", n, e, want)
		}
	}
	if _, e := Build(twice(666)); e != api.OK {
		t.Errorf("Build with 666 labels: %v", e)
	}
}

// twice returns the graph of a vector that has n strings, and each of them again.
func twice(n int) []Node {
	g := []Node{{Kind: api.FormVector}}
	for i := range n {
		g[0].Kids = append(g[0].Kids, i+1)
		g = append(g, Node{Kind: api.FormString})
	}
	g[0].Kids = append(g[0].Kids, g[0].Kids...)
	return g
}

// P1.7.
func TestGraphLaws(t *testing.T) {
	eachGraph(t, func(f api.Form, g []Node) {
		if e := CheckGraph(g); e != api.OK {
			t.Fatalf("the graph of %s: %v", show(f), e)
		}
		n, _ := Normal(f)
		b, e := Build(g)
		if e != api.OK || !Equal(b, n) {
			t.Errorf("Build of Nodes of %s = %s, %v", show(f), show(b), e)
		}
		if again := graphOf(t, b); !sameGraph(again, g) {
			t.Errorf("Nodes of Build of %v = %v", g, again)
		}
		if p, e := Part(g, 0); e != api.OK || !sameGraph(p, g) {
			t.Errorf("Part of 0 of %v = %v, %v", g, p, e)
		}
		for i := range g {
			p, e := Part(g, i)
			if e != api.OK || CheckGraph(p) != api.OK || p[0].Kind != g[i].Kind {
				t.Errorf("Part of %d of %v = %v, %v", i, g, p, e)
			}
			last := len(p) - 1
			part, _ := Part(p, last)
			other, e := Part(g, slices.Collect(met(g, i))[last])
			if e != api.OK || !sameGraph(part, other) {
				t.Errorf("Part of a part of %v = %v; want %v", g, part, other)
			}
		}
		labels := count(b, api.FormLabel)
		if l, e := Shared(g); e != api.OK || len(l) != labels || !slices.IsSorted(l) {
			t.Errorf("Shared of %v = %v, %v; there are %d labels", g, l, e, labels)
		}
	})
}

// P1.1: Shared, Circular and Cars.
func TestGraphQuestions(t *testing.T) {
	g := graphOf(t, vec(lab("1", str("x")), ref("1"), sym("A"), sym("A"), lab("2", vec(ref("2")))))
	if l, e := Shared(g); e != api.OK || !slices.Equal(l, []int{1, 3}) {
		t.Errorf("Shared = %v, %v", l, e)
	}
	if l, e := Shared(graphOf(t, lab("0", vec(ref("0"))))); e != api.OK || !slices.Equal(l, []int{0}) {
		t.Errorf("Shared = %v, %v; being the first node is a place", l, e)
	}
	for i, want := range []bool{false, false, false, true} {
		if is, e := Circular(g, i); is != want || e != api.OK {
			t.Errorf("Circular of %d = %v, %v", i, is, e)
		}
	}
	ring := graphOf(t, lab("0", vec(str(""), vec(ref("0")))))
	for i, want := range []bool{true, false, true} {
		if is, e := Circular(ring, i); is != want || e != api.OK {
			t.Errorf("Circular of %d = %v, %v", i, is, e)
		}
	}
	l := graphOf(t, cons(sym("A"), lab("1", cons(sym("B"), sym("C"))), num("1")))
	if cars, last, e := Cars(l, 0); e != api.OK || len(cars) != 2 || cars[0] != 1 || l[cars[1]].Kind != api.FormCons || l[last].Text != "1" {
		t.Errorf("Cars = %v, %d, %v", cars, last, e)
	}
	if cars, last, e := Cars(l, 1); e != api.OK || len(cars) != 0 || last != 1 {
		t.Errorf("Cars of a symbol = %v, %d, %v", cars, last, e)
	}
	if cars, last, e := Cars(graphOf(t, cons(sym("A"), lab("1", cons(sym("B"), ref("1"))))), 0); e != api.ErrOrder || cars != nil || last != 0 {
		t.Errorf("Cars of a circle = %v, %d, %v", cars, last, e)
	}
}

// P1.1: the relations, by the pairs of which they hold.
func TestRelations(t *testing.T) {
	one, x := num("1"), str("x")
	z := complexOf(num("1"), num("2"))
	for _, c := range []struct {
		a, b                api.Form
		eql, alike, similar bool
	}{
		{one, one, true, true, true},
		{one, node(api.FormSingle, "3f800000"), false, false, false},
		{one, num("2"), false, false, false},
		{z, z, true, true, true},
		{z, complexOf(num("1"), num("3")), false, false, false},
		{z, complexOf(node(api.FormSingle, "3f800000"), node(api.FormSingle, "40000000")), false, false, false},
		{node(api.FormChar, "a"), node(api.FormChar, "a"), true, true, true},
		{node(api.FormChar, "a"), node(api.FormChar, "A"), false, false, false},
		{sym("A"), sym("A"), true, true, true},
		{sym("A"), Symbol("", "A"), false, false, false},
		{x, x, false, true, true},
		{x, str("X"), false, false, false},
		{x, sym("x"), false, false, false},
		{node(api.FormBits, "01"), node(api.FormBits, "01"), false, true, true},
		{node(api.FormBits, "01"), node(api.FormBits, "10"), false, false, false},
		{node(api.FormBits, "01"), str("01"), false, false, false},
		{cons(x, z), cons(x, z), false, true, true},
		{cons(x, one), cons(x, num("2")), false, false, false},
		{cons(vec(), one), cons(vec(), one), false, false, true},
		{vec(), vec(), false, false, true},
		{vec(one), vec(one), false, false, true},
		{vec(one), vec(), false, false, false},
		{vec(one), vec(x), false, false, false},
		{node(api.FormArray, "1 1", one), node(api.FormArray, "1 1", one), false, false, true},
		{node(api.FormArray, "1 1", one), node(api.FormArray, "1 1 1", one), false, false, false},
		{node(api.FormArray, "0 1"), node(api.FormArray, "0 1"), false, false, true},
		{lab("1", cons(one, ref("1"))), lab("2", cons(one, one, ref("2"))), false, true, true},
		{lab("1", cons(one, ref("1"))), lab("2", cons(one, num("2"), ref("2"))), false, false, false},
		{lab("1", vec(ref("1"))), lab("2", vec(vec(ref("2")))), false, false, true},
		{lab("1", cons(vec(), ref("1"))), lab("2", cons(vec(), ref("2"))), false, false, true},
	} {
		g := graphOf(t, vec(c.a, c.b))
		i, k := g[0].Kids[0], g[0].Kids[1]
		eql, _ := Eql(g, i, k)
		alike, _ := Alike(g, i, k)
		similar, e := Similar(g, i, k)
		if eql != c.eql || alike != c.alike || similar != c.similar || e != api.OK {
			t.Errorf("%s and %s: %v, %v, %v, %v", show(c.a), show(c.b), eql, alike, similar, e)
		}
	}
}

// P1.8.
func TestRelationLaws(t *testing.T) {
	relations := []func([]Node, int, int) (bool, api.Errno){Eql, Alike, Similar}
	eachGraph(t, func(f api.Form, g []Node) {
		if len(g) > 14 {
			return
		}
		for n, relation := range relations {
			holds := func(i, k int) bool {
				is, e := relation(g, i, k)
				if e != api.OK {
					t.Fatalf("%v", e)
				}
				return is
			}
			for i := range g {
				if !holds(i, i) {
					t.Errorf("relation %d of %v is not reflexive at %d", n, g, i)
				}
				for k := range g {
					is := holds(i, k)
					if is != holds(k, i) {
						t.Errorf("relation %d of %v is not symmetric at %d, %d", n, g, i, k)
					}
					if is && n < 2 {
						if wider, _ := relations[n+1](g, i, k); !wider {
							t.Errorf("relation %d of %v is wider than the next one at %d, %d", n, g, i, k)
						}
					}
					for m := range g {
						if is && holds(k, m) && !holds(i, m) {
							t.Errorf("relation %d of %v is not transitive at %d, %d, %d", n, g, i, k, m)
						}
					}
				}
			}
		}
	})
}

// beside returns one graph with both: a vector that has their first nodes.
func beside(t *testing.T, a, b []Node) []Node {
	t.Helper()
	f, e := Build(a)
	g, d := Build(b)
	if e != api.OK || d != api.OK {
		t.Fatalf("Build: %v, %v", e, d)
	}
	return graphOf(t, vec(f, shiftLabels(g, 500)))
}

func shiftLabels(f api.Form, by int) api.Form {
	f = tree.Copy(f)
	if f.Kind == api.FormLabel || f.Kind == api.FormRef {
		n, _ := strconv.Atoi(f.Text)
		f.Text = strconv.Itoa(n + by)
	}
	for i, kid := range f.Kids {
		f.Kids[i] = shiftLabels(kid, by)
	}
	return f
}

// P1.1 and P1.8: Coalesce.
func TestCoalesce(t *testing.T) {
	x := str("x")
	for _, c := range []struct{ f, want api.Form }{
		{cons(x, x, num("1")), cons(lab("0", x), ref("0"), num("1"))},
		{vec(num("1"), num("1")), vec(num("1"), num("1"))},
		{vec(vec(), vec(), cons(vec(), vec())), vec(lab("0", vec()), ref("0"), cons(ref("0"), ref("0")))},
		{lab("0", cons(sym("A"), sym("A"), ref("0"))), lab("0", cons(sym("A"), ref("0")))},
		{vec(lab("1", vec(ref("1"))), lab("2", vec(vec(ref("2"))))), vec(lab("0", vec(ref("0"))), ref("0"))},
		{vec(cons(x, num("1")), cons(x, num("1"))), vec(lab("0", cons(x, num("1"))), ref("0"))},
	} {
		g, e := Coalesce(graphOf(t, c.f))
		if want := graphOf(t, c.want); e != api.OK || !sameGraph(g, want) {
			t.Errorf("Coalesce of %s = %v, %v; want %v", show(c.f), g, e, want)
		}
	}
	eachGraph(t, func(f api.Form, g []Node) {
		c, e := Coalesce(g)
		if e != api.OK || CheckGraph(c) != api.OK {
			t.Fatalf("Coalesce of %v = %v, %v", g, c, e)
		}
		for i := range c {
			for k := range i {
				if is, _ := Similar(c, i, k); is && hasIdentity(c[i].Kind) {
					t.Errorf("Coalesce of %v has the similar nodes %d and %d: %v", g, k, i, c)
				}
			}
		}
		if again, _ := Coalesce(c); !sameGraph(again, c) {
			t.Errorf("Coalesce of %v = %v", c, again)
		}
		both := beside(t, g, c)
		if is, e := Similar(both, both[0].Kids[0], both[0].Kids[1]); !is || e != api.OK {
			t.Errorf("%v and its Coalesce %v are not similar", g, c)
		}
	})
}

// P1: the functions end for the greatest graphs, too.
func TestGreatGraphs(t *testing.T) {
	ring := func(from, n int) []Node { // conses that have one symbol
		var l []Node
		for i := range n {
			l = append(l, Node{Kind: api.FormCons, Kids: []int{1, from + (i+1)%n}})
		}
		return l
	}
	g := []Node{{Kind: api.FormCons, Kids: []int{1, 2}}, {Kind: api.FormSymbol, Text: "A"}}
	g = append(g, Node{Kind: api.FormCons, Kids: []int{3, 1002}})
	g = append(g, ring(3, 999)...)
	g[3].Kids = []int{1, 4}
	g = append(g, ring(1002, 998)...)
	if e := CheckGraph(g); e != api.OK {
		t.Fatalf("CheckGraph: %v", e)
	}
	if is, e := Alike(g, 3, 1002); !is || e != api.OK {
		t.Errorf("two rings: %v, %v", is, e)
	}
	c, e := Coalesce(g)
	want := []Node{{Kind: api.FormCons, Kids: []int{1, 2}}, {Kind: api.FormSymbol, Text: "A"}, {Kind: api.FormCons, Kids: []int{3, 3}}, {Kind: api.FormCons, Kids: []int{1, 3}}}
	if e != api.OK || !reflect.DeepEqual(c, want) {
		t.Errorf("Coalesce = %v, %v", c, e)
	}
	l := graphOf(t, cons(many(1000, sym("A"))...))
	if c, e := Coalesce(l); e != api.OK || !sameGraph(c, l) {
		t.Errorf("Coalesce of a list: %d nodes, %v", len(c), e)
	}
}
