package core

import (
	"slices"

	"commonform/api"
	"commonform/forms"
	"commonform/tree"
)

// Renamed returns a tree with greater numbers.
func Renamed(c api.Core, by int) (api.Core, api.Errno) {
	if Check(c) != api.OK {
		return api.Core{}, api.ErrForm
	}
	r := renamer{by: by}
	made := r.node(c)
	if r.isBeyond {
		return api.Core{}, api.ErrRange
	}
	return made, api.OK
}

// renamer copies a right tree with other numbers.
type renamer struct {
	by       int
	isBeyond bool // there is a number that none may be
}

func (r *renamer) number(n int) int {
	// a sum could wrap, a bound less a number of a right tree cannot
	if r.by < -n || r.by > maxNumber-n {
		r.isBeyond = true
		return 0
	}
	return n + r.by
}

func (r *renamer) node(c api.Core) api.Core {
	made := api.Core{Op: c.Op, N: c.N, Data: tree.Copy(c.Data), Syms: tree.Copies(c.Syms)}
	switch c.Op {
	case api.CoreVar, api.CoreSet, api.CoreBlock, api.CoreReturn, api.CoreGo:
		made.N = r.number(c.N)
	}
	for _, n := range c.Vars {
		made.Vars = append(made.Vars, r.number(n))
	}
	for _, p := range c.Pars {
		p.Key = tree.Copy(p.Key)
		p.Var = r.number(p.Var)
		if p.Given != notTold {
			p.Given = r.number(p.Given)
		}
		made.Pars = append(made.Pars, p)
	}
	for _, kid := range c.Kids {
		made.Kids = append(made.Kids, r.node(kid))
	}
	return made
}

// Same reports whether two trees differ in numbers alone.
func Same(a, b api.Core) bool {
	if Check(a) != api.OK || Check(b) != api.OK {
		return false
	}
	x := pairing{}
	for kind := range x.numbers {
		x.numbers[kind] = map[int]int{}
	}
	return x.node(a, b)
}

// pairing compares two right trees. Each number is bound once and ahead of its uses, so that the pairs that are bound decide those that are used.
type pairing struct {
	numbers [kindsOfNumbers]map[int]int // of the second tree, by those of the first one
}

// bind pairs the numbers that two nodes bind.
func (x *pairing) bind(kind int, a, b []int) bool {
	if len(a) != len(b) {
		return false
	}
	for i := range a {
		x.numbers[kind][a[i]] = b[i]
	}
	return true
}

func (x *pairing) node(a, b api.Core) bool {
	if a.Op != b.Op || len(a.Kids) != len(b.Kids) || !forms.Equal(a.Data, b.Data) || !slices.EqualFunc(a.Syms, b.Syms, forms.Equal) {
		return false
	}
	if !x.own(a, b) {
		return false
	}
	for i := range a.Kids {
		if !x.node(a.Kids[i], b.Kids[i]) {
			return false
		}
	}
	return true
}

// own compares the numbers of two nodes with the same op.
func (x *pairing) own(a, b api.Core) bool {
	switch a.Op {
	case api.CoreVar, api.CoreSet:
		return x.numbers[ofVariables][a.N] == b.N
	case api.CoreReturn:
		return x.numbers[ofBlocks][a.N] == b.N
	case api.CoreGo:
		return x.numbers[ofTags][a.N] == b.N
	case api.CoreLet, api.CoreLabels:
		return x.bind(ofVariables, a.Vars, b.Vars)
	case api.CoreBlock:
		return x.bind(ofBlocks, []int{a.N}, []int{b.N})
	case api.CoreTagbody:
		return x.bind(ofTags, a.Vars, b.Vars)
	case api.CoreLambda:
		return a.N == b.N && slices.EqualFunc(a.Pars, b.Pars, x.parameter)
	}
	return true
}

func (x *pairing) parameter(a, b api.Param) bool {
	return a.Kind == b.Kind && forms.Equal(a.Key, b.Key) && x.bind(ofVariables, parameters(a), parameters(b))
}
