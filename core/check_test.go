package core

import (
	"slices"
	"strings"
	"testing"

	"commonform/api"
)

// P19.1: trees that are right.
func TestRight(t *testing.T) {
	for _, text := range strings.Split("(const 5)|(const 10::(2::1 =NIL))|(const 13::1(10::(2::1 14::1)))|(let [9999] (const 1) (var 9999))|(let [] (const 1))|(labels [] (progn))|(bind [] (progn))|(tagbody [] (progn))|(labels [1 0] (lambda 0 (var 0)) (lambda 0 (set 1 (var 1))) (var 1))|(callglobal F)|(special %K)|(setspecial %K (progn))|(function %K)"+
		"|(lambda 0 {1 0 -1 -} {1 1 -1 -} {2 2 3 -} {2 4 -1 -} {3 5 -1 -} {4 6 7 %K} {4 8 -1 1::K} (var 1) (var 3) (var 5) (var 7) (var 8))|(lambda 1 (progn))|(lambda 1 {3 0 -1 -} (var 0))|(block 0 (let [0] (return 0 (progn)) (tagbody [0 1] (go 1) (lambda 0 (go 0)) (return 0 (go 1)))))|(bind [A B] (progn) (progn) (special A))|(progn (lambda 0 {1 0 -1 -} (var 0)) (lambda 0 {1 1 -1 -} (var 1)))|(valuescall (progn))|(valuesfirst (progn))|(call (progn))|(let [0] (const 1) (lambda 0 {2 1 -1 -} (var 0) (set 0 (var 1))))", "|") {
		if e := Check(treeOf(t, text)); e != api.OK {
			t.Errorf("Check(%s) = %v", text, e)
		}
	}
}

// P19.1: trees that are not.
func TestWrong(t *testing.T) {
	for _, text := range strings.Split("(var 0)|(set 0 (progn))|(let [0] (var 0) (progn))|(progn (let [0] (progn) (progn)) (var 0))|(let [0 0] (progn) (progn) (progn))|(progn (let [0] (progn) (progn)) (let [0] (progn) (progn)))|(let [0] (progn) (lambda 0 {1 0 -1 -} (progn)))|(lambda 0 {2 0 0 -} (progn) (progn))|(let [10000] (progn) (progn))|(let [-1] (progn) (progn))|(lambda 0 {1 10000 -1 -} (progn))|(lambda 0 {2 0 -2 -} (progn) (progn))|(lambda 0 {2 0 10000 -} (progn) (progn))"+
		"|(if (progn) (progn))|(if (progn) (progn) (progn) (progn))|(set 0)|(block 0)|(block 0 (progn) (progn))|(catch (progn))|(throw (progn))|(protect (progn) (progn) (progn))|(progv (progn) (progn))|(call)|(valuescall)|(valuesfirst)|(let [0] (progn))|(let [] (progn) (progn))|(labels [0] (progn))|(bind [A] (progn))|(tagbody [0] (progn))|(tagbody [])|(lambda 0)|(lambda 0 {2 0 -1 -} (progn))|(lambda 0 {1 0 -1 -} (progn) (progn))|(const 5 (progn))|(var 0 (progn))|(special A (progn))|(setspecial A)|(function F (progn))|(go 0 (progn))"+
		"|(labels [0] (progn) (progn))|(labels [0] (const 1) (progn))|(lambda 2 (progn))|(lambda -1 (progn))|(lambda 0 {0 0 -1 -} (progn))|(lambda 0 {5 0 -1 -} (progn))|(lambda 0 {2 0 -1 -} {1 1 -1 -} (progn) (progn))|(lambda 0 {3 0 -1 -} {3 1 -1 -} (progn))|(lambda 0 {4 0 -1 %K} {3 1 -1 -} (progn) (progn))|(lambda 0 {1 0 1 -} (progn))|(lambda 0 {3 0 1 -} (progn))|(lambda 0 {1 0 0 -} (progn))|(lambda 0 {1 0 -1 %K} (progn))|(lambda 0 {2 0 -1 %K} (progn) (progn))|(lambda 0 {4 0 -1 -} (progn) (progn))|(lambda 0 {4 0 -1 2::1} (progn) (progn))|(lambda 0 {4 0 -1 %K} {4 1 -1 %K} (progn) (progn) (progn))"+
		"|(lambda 0 {2 0 -1 -} (var 0) (progn))|(lambda 0 {2 0 1 -} (var 1) (progn))|(lambda 0 {2 0 -1 -} {2 1 -1 -} (var 1) (progn) (progn))|(progn (lambda 0 {1 0 -1 -} (progn)) (var 0))|(special =NIL)|(special =T)|(special 1::X)|(special 2::1)|(setspecial =T (progn))|(function =NIL)|(callglobal 1::F)|(callglobal 8::F)|(bind [=NIL] (progn) (progn))|(bind [1::A] (progn) (progn))|(bind [A A] (progn) (progn) (progn))|(bind [2::1] (progn) (progn))|(const 2::01)|(const 0::)|(const 14::1)|(const 10::(2::1))|(const 1::X(2::1))|(const 99::)"+
		"|(return 0 (progn))|(progn (block 0 (progn)) (return 0 (progn)))|(block 0 (block 0 (progn)))|(progn (block 0 (progn)) (block 0 (progn)))|(block 10000 (progn))|(block -1 (progn))|(go 0)|(progn (tagbody [0] (progn) (progn)) (go 0))|(tagbody [0 0] (progn) (progn) (progn))|(tagbody [0] (tagbody [0] (progn) (progn)) (progn))|(tagbody [10000] (progn) (progn))|(block 0 (go 0))|(tagbody [0] (return 0 (progn)) (progn))|(let [0] (progn) (return 0 (progn)))|(tagbody [0] (progn) (var 0))", "|") {
		if e := Check(treeOf(t, text)); e != api.ErrForm {
			t.Errorf("Check(%s) = %v; want ErrForm", text, e)
		}
	}
}

// P19.1: fields that an op has not, and ops that there are not.
func TestFields(t *testing.T) {
	data, sym := number(1), global("A")
	change := map[string]func(c *api.Core){
		"n": func(c *api.Core) { c.N = 1 }, "vars": func(c *api.Core) { c.Vars = []int{7} }, "syms": func(c *api.Core) { c.Syms = []api.Form{sym} }, "pars": func(c *api.Core) { c.Pars = []api.Param{{Kind: 1, Var: 7, Given: -1}} }, "data": func(c *api.Core) { c.Data = data }, "text": func(c *api.Core) { c.Data.Text = "a" }, "home": func(c *api.Core) { c.Data.Home = "a" }, "kids": func(c *api.Core) { c.Data.Kids = []api.Form{data} },
	}
	own := map[int]string{api.CoreConst: "data text home kids", api.CoreSpecial: "data text home kids", api.CoreSetSpecial: "data text home kids", api.CoreFunction: "data text home kids", api.CoreCallGlobal: "data text home kids", api.CoreVar: "n", api.CoreSet: "n", api.CoreBlock: "n", api.CoreReturn: "n", api.CoreGo: "n", api.CoreLambda: "n pars", api.CoreLet: "vars", api.CoreLabels: "vars", api.CoreTagbody: "vars", api.CoreBind: "syms"}
	texts := "(const 5)|(let [0] (progn) (var 0))|(let [0] (progn) (set 0 (progn)))|(special A)|(setspecial A (progn))|(function A)|(lambda 0 (progn))|(call (progn))|(callglobal A)|(if (progn) (progn) (progn))|(progn)|(let [0] (progn) (progn))|(labels [] (progn))|(bind [] (progn))|(progv (progn) (progn) (progn))|(block 0 (progn))|(block 0 (return 0 (progn)))|(tagbody [] (progn))|(tagbody [0] (go 0) (progn))|(catch (progn) (progn))|(throw (progn) (progn))|(protect (progn) (progn))|(valuescall (progn))|(valuesfirst (progn))"
	for op, text := range strings.Split(texts, "|") {
		op++
		for name, f := range change {
			if slices.Contains(strings.Fields(own[op]), name) {
				continue
			}
			c := treeOf(t, text)
			part := &c
			if c.Op != op {
				part = &c.Kids[len(c.Kids)-1]
				if part.Op != op {
					part = &c.Kids[0]
				}
			}
			if part.Op != op {
				t.Fatalf("%s has not the op %d", text, op)
			}
			if e := Check(c); e != api.OK {
				t.Fatalf("Check(%s) = %v", text, e)
			}
			f(part)
			if e := Check(c); e != api.ErrForm {
				t.Errorf("Check of the op %d with %s: %v", op, name, e)
			}
		}
	}
	progn := []api.Core{{Op: api.CoreProgn}, {Op: api.CoreProgn}}
	for i, c := range []api.Core{{Op: api.CoreProgn, Vars: []int{7}, Kids: progn}, {Op: api.CoreProgn, Syms: []api.Form{sym}, Kids: progn}, {Op: api.CoreBind, Vars: []int{7}, Syms: []api.Form{sym}, Kids: slices.Concat(progn, progn[:1])}, {Op: api.CoreLet, Vars: []int{7}, Syms: []api.Form{sym}, Kids: slices.Concat(progn, progn[:1])}, {Op: api.CoreProgn, Pars: []api.Param{{Kind: api.ParamOptional, Var: 7, Given: -1}}, Kids: progn}} {
		if e := Check(c); e != api.ErrForm {
			t.Errorf("Check of the tree %d, which has kids for another field: %v", i, e)
		}
	}
	for _, op := range []int{-1, 0, 25, 99} {
		if e := Check(api.Core{Op: op}); e != api.ErrForm {
			t.Errorf("Check of the op %d: %v", op, e)
		}
	}
}

// P19.1: trees that are too large or too deep, ahead of all else; and trees without an end.
func TestSize(t *testing.T) {
	wide := func(n int) api.Core {
		c := api.Core{Op: api.CoreProgn}
		for range n - 1 {
			c.Kids = append(c.Kids, api.Core{Op: api.CoreProgn})
		}
		return c
	}
	deep := func(n int) api.Core {
		c := api.Core{Op: api.CoreProgn}
		for range n - 1 {
			c = api.Core{Op: api.CoreProgn, Kids: []api.Core{c}}
		}
		return c
	}
	circle := api.Core{Op: api.CoreProgn, Kids: make([]api.Core, 1)}
	circle.Kids[0] = circle
	broad := api.Core{Op: api.CoreProgn}
	for range 90 {
		broad = api.Core{Op: api.CoreProgn, Kids: []api.Core{broad, broad}}
	}
	for i, x := range []struct {
		c    api.Core
		want api.Errno
		size int
	}{{wide(api.MaxForm), api.OK, api.MaxForm}, {wide(api.MaxForm + 1), api.ErrSize, 0}, {deep(api.MaxDepth), api.OK, api.MaxDepth}, {deep(api.MaxDepth + 1), api.ErrSize, 0}, {circle, api.ErrSize, 0}, {broad, api.ErrSize, 0}, {api.Core{}, api.ErrForm, 1}} {
		wrong := x.c
		wrong.N = 1
		want := x.want
		if want == api.OK {
			want = api.ErrForm
		}
		if e, e2 := Check(x.c), Check(wrong); e != x.want || e2 != want {
			t.Errorf("Check of the tree %d: %v, and with a wrong field %v; want %v", i, e, e2, x.want)
		}
		if n := Size(x.c); n != x.size || len(Free(x.c)) > 0 {
			t.Errorf("Size of the tree %d: %d, Free %v; want %d", i, n, Free(x.c), x.size)
		}
		_, e := Show(x.c)
		_, e2 := Renamed(x.c, 0)
		isRight := x.want == api.OK
		if (e == api.OK) != isRight || e != api.OK && e != api.ErrForm || e2 != e || Same(x.c, x.c) != isRight {
			t.Errorf("of the tree %d: Show %v, Renamed %v, Same %v", i, e, e2, Same(x.c, x.c))
		}
	}
	large := api.Core{Op: api.CoreConst, Data: api.Form{Kind: api.FormVector, Kids: slices.Repeat([]api.Form{number(1)}, api.MaxForm)}}
	if e := Check(large); e != api.ErrForm {
		t.Errorf("Check of a constant that is too large: %v", e)
	}
	large.Data.Kids = large.Data.Kids[1:]
	many := api.Core{Op: api.CoreProgn, Kids: []api.Core{large, large, large}}
	if e := Check(many); e != api.OK || Size(many) != 4 {
		t.Errorf("nodes of constants are none of the tree: %v, %d", e, Size(many))
	}
}

// P19.1: sizes, and the variables that are used and not bound.
func TestFree(t *testing.T) {
	for text, want := range map[string]struct {
		size int
		free []int
	}{
		"(var 3)": {1, []int{3}}, "(set 5 (progn (var 2) (var 5) (var 2)))": {5, []int{2, 5}}, "(let [0] (var 1) (var 0))": {3, []int{1}}, "(lambda 0 {1 4 -1 -} {2 5 6 -} (var 4) (call (var 5) (var 6) (var 7)))": {6, []int{7}}, "(labels [1 2] (lambda 0 (var 2)) (lambda 0 (var 1)) (var 3))": {6, []int{3}}, "(block 1 (return 2 (go 3)))": {3, nil}, "(tagbody [1] (var 1) (progn))": {3, []int{1}}, "(progn)": {1, nil}, "(const 13::1(1::A))": {1, nil},
	} {
		c := treeOf(t, text)
		if n, free := Size(c), Free(c); n != want.size || !slices.Equal(free, want.free) {
			t.Errorf("%s: Size %d, Free %v; want %d, %v", text, n, free, want.size, want.free)
		}
	}
	if f := Free(api.Core{Op: api.CoreVar, N: -7}); !slices.Equal(f, []int{-7}) {
		t.Errorf("Free = %v", f)
	}
}
