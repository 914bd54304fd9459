package core

import (
	"commonform/api"
	"commonform/forms"
)

// Check returns OK for a right core tree.
func Check(c api.Core) api.Errno {
	if _, ok := measure(c); !ok {
		return api.ErrSize
	}
	k := checker{}
	for kind := range k.used {
		k.used[kind], k.open[kind] = map[int]bool{}, map[int]bool{}
	}
	if !k.node(c) {
		return api.ErrForm
	}
	return api.OK
}

// Kinds of numbers: each has numbers of its own.
const (
	ofVariables = iota
	ofBlocks
	ofTags
	kindsOfNumbers
)

// checker goes through a tree. Its methods report whether all is right.
type checker struct {
	used [kindsOfNumbers]map[int]bool // numbers that were bound, or made
	open [kindsOfNumbers]map[int]bool // those in whose scope the walk is
}

// make takes numbers, each of which there must be once.
func (k *checker) make(kind int, numbers ...int) bool {
	for _, n := range numbers {
		if n < 0 || n > maxNumber || k.used[kind][n] {
			return false
		}
		k.used[kind][n] = true
	}
	return true
}

// enter begins the scope of numbers, and leave ends it.
func (k *checker) enter(kind int, numbers ...int) {
	for _, n := range numbers {
		k.open[kind][n] = true
	}
}

func (k *checker) leave(kind int, numbers ...int) {
	for _, n := range numbers {
		delete(k.open[kind], n)
	}
}

// within checks nodes in the scope of numbers.
func (k *checker) within(kind int, numbers []int, nodes []api.Core) bool {
	k.enter(kind, numbers...)
	defer k.leave(kind, numbers...)
	return k.nodes(nodes)
}

func (k *checker) nodes(l []api.Core) bool {
	for _, c := range l {
		if !k.node(c) {
			return false
		}
	}
	return true
}

// node checks a node and its kids.
func (k *checker) node(c api.Core) bool {
	s, ok := shapeOf(c.Op)
	if !ok || !s.fits(c) || s.has(fieldData) && !isRightData(c) {
		return false
	}
	last := len(c.Kids) - 1
	switch c.Op {
	case api.CoreVar:
		return k.open[ofVariables][c.N]
	case api.CoreSet:
		return k.open[ofVariables][c.N] && k.nodes(c.Kids)
	case api.CoreLambda:
		return k.lambda(c)
	case api.CoreLet:
		return k.make(ofVariables, c.Vars...) && k.nodes(c.Kids[:last]) && k.within(ofVariables, c.Vars, c.Kids[last:])
	case api.CoreLabels:
		return k.make(ofVariables, c.Vars...) && areLambdas(c.Kids[:last]) && k.within(ofVariables, c.Vars, c.Kids)
	case api.CoreBind:
		return areGlobals(c.Syms) && k.nodes(c.Kids)
	case api.CoreBlock:
		return k.make(ofBlocks, c.N) && k.within(ofBlocks, []int{c.N}, c.Kids)
	case api.CoreReturn:
		return k.open[ofBlocks][c.N] && k.nodes(c.Kids)
	case api.CoreTagbody:
		return k.make(ofTags, c.Vars...) && k.within(ofTags, c.Vars, c.Kids)
	case api.CoreGo:
		return k.open[ofTags][c.N]
	}
	return k.nodes(c.Kids)
}

func isRightData(c api.Core) bool {
	if c.Op == api.CoreConst {
		return forms.Check(c.Data) == api.OK
	}
	return isGlobal(c.Data)
}

func areLambdas(l []api.Core) bool {
	for _, c := range l {
		if c.Op != api.CoreLambda {
			return false
		}
	}
	return true
}

func areGlobals(l []api.Form) bool {
	met := map[[2]string]bool{}
	for _, f := range l {
		name := [2]string{f.Home, f.Text}
		if !isGlobal(f) || met[name] {
			return false
		}
		met[name] = true
	}
	return true
}

// lambda checks parameters one by one: the scope of each begins behind it.
func (k *checker) lambda(c api.Core) bool {
	if c.N != 0 && c.N != 1 || !areRight(c.Pars) {
		return false
	}
	defer k.leave(ofVariables, variables(c)...)
	inits := c.Kids
	for _, p := range c.Pars {
		if hasInit(p.Kind) {
			if !k.node(inits[0]) {
				return false
			}
			inits = inits[1:]
		}
		numbers := parameters(p)
		if !k.make(ofVariables, numbers...) {
			return false
		}
		k.enter(ofVariables, numbers...)
	}
	return k.nodes(inits)
}

// areRight reports whether parameters are in order, and have what their kinds have, but for the numbers of variables.
func areRight(pars []api.Param) bool {
	keys := map[[2]string]bool{}
	last := api.ParamRequired
	for _, p := range pars {
		if p.Kind < last || p.Kind > api.ParamKey || p.Kind == api.ParamRest && last == api.ParamRest {
			return false
		}
		last = p.Kind
		if !hasInit(p.Kind) && p.Given != notTold {
			return false
		}
		name := [2]string{p.Key.Home, p.Key.Text}
		if p.Kind != api.ParamKey {
			if !isZero(p.Key) {
				return false
			}
			continue
		}
		if p.Key.Kind != api.FormSymbol || forms.Check(p.Key) != api.OK || keys[name] {
			return false
		}
		keys[name] = true
	}
	return true
}
