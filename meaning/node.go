package meaning

import (
	"maps"
	"slices"

	"commonform/api"
	"commonform/heap"
	"commonform/lib"
	"commonform/tree"
)

// Keys of blocks and tagbodies in environments: those of variables, their numbers, are below.
const (
	blockKey = 10000
	tagKey   = 20000
)

// node is a node of a core tree that is run. It is the same one in each run of a closure.
type node struct {
	api.Core         // without Kids
	kids     []*node // in their place
	captured []int   // of a Lambda: the keys that it takes from around
	key      int     // of a block, a tagbody, and what leads there
	isGoal   bool    // of a block or a tagbody: something leads there
	segment  int     // of a CoreGo
	index    int     // of a Lambda: where it may stand in the list of its world
}

// compile returns the node of a right core tree.
func compile(c api.Core) *node {
	k := compiler{goals: map[int]goal{}}
	n, _ := k.node(c)
	return n
}

// goal is where a tag leads.
type goal struct{ key, segment int }

type compiler struct {
	goals map[int]goal // of the tags around
}

// node returns a node, and the keys that it takes from around.
func (k *compiler) node(c api.Core) (*node, map[int]bool) {
	n := &node{Core: c}
	n.Data, n.Kids = tree.Copy(c.Data), nil
	n.Vars, n.Syms = slices.Clone(c.Vars), tree.Copies(c.Syms)
	n.Pars = nil
	for _, p := range c.Pars {
		p.Key = tree.Copy(p.Key)
		n.Pars = append(n.Pars, p)
	}
	k.mark(n)
	free := map[int]bool{}
	for _, c := range c.Kids {
		kid, taken := k.node(c)
		n.kids = append(n.kids, kid)
		maps.Copy(free, taken)
	}
	n.resolve(free)
	return n, free
}

// mark gives a node the key that is used for it.
func (k *compiler) mark(n *node) {
	switch n.Op {
	case api.CoreVar, api.CoreSet:
		n.key = n.N
	case api.CoreBlock, api.CoreReturn:
		n.key = blockKey + n.N
	case api.CoreTagbody:
		if len(n.Vars) > 0 {
			n.key = tagKey + n.Vars[0]
		}
		for i, tag := range n.Vars {
			k.goals[tag] = goal{key: n.key, segment: i + 1}
		}
	case api.CoreGo:
		to := k.goals[n.N]
		n.key, n.segment = to.key, to.segment
	}
}

// resolve takes what a node binds out of the keys that its kids take, and adds what it takes itself.
func (n *node) resolve(free map[int]bool) {
	switch n.Op {
	case api.CoreVar, api.CoreSet, api.CoreReturn, api.CoreGo:
		free[n.key] = true
	case api.CoreBlock, api.CoreTagbody:
		n.isGoal = free[n.key]
		delete(free, n.key)
	case api.CoreLet, api.CoreLabels:
		for _, v := range n.Vars {
			delete(free, v)
		}
	case api.CoreLambda:
		for _, p := range n.Pars {
			delete(free, p.Var)
			delete(free, p.Given)
		}
		n.captured = slices.Sorted(maps.Keys(free))
	}
}

// tree returns the core tree of a node.
func (n *node) tree() api.Core {
	c := n.Core
	c.Data, c.Vars, c.Syms, c.Pars = tree.Copy(n.Data), slices.Clone(n.Vars), tree.Copies(n.Syms), nil
	for _, p := range n.Pars {
		p.Key = tree.Copy(p.Key)
		c.Pars = append(c.Pars, p)
	}
	for _, kid := range n.kids {
		c.Kids = append(c.Kids, kid.tree())
	}
	return c
}

// last returns the last kid.
func (n *node) last() *node { return n.kids[len(n.kids)-1] }

// What a world keeps of this layer, by names.
const (
	keptTrees    = "meaning" // the list of its Lambdas
	whileRunning = "running" // the whole of the runs that are going on
)

// trees is what a world keeps: the Lambdas of its closures, and how many blocks and tagbodies were begun.
type trees struct {
	lambdas []*node
	begun   int
}

// treesOf returns what a world keeps; a new list, if it keeps none.
func treesOf(w *lib.World) *trees {
	t, ok := w.Extra(keptTrees).(*trees)
	if !ok || t == nil {
		t = &trees{}
		w.SetExtra(keptTrees, t)
	}
	return t
}

// indexOf returns the index of a Lambda, which is added if it is not there.
func (t *trees) indexOf(n *node) int {
	if n.index >= len(t.lambdas) || t.lambdas[n.index] != n {
		n.index = len(t.lambdas)
		t.lambdas = append(t.lambdas, n)
	}
	return n.index
}

// lambda returns the Lambda of a closure, and its environment.
func (t *trees) lambda(h *heap.Heap, x heap.Word) (n *node, environment heap.Word, ok bool) {
	if h.Kind(x) != heap.KindClosure || h.Len(x) != closureFields {
		return nil, 0, false
	}
	field, _ := h.Get(x, 0)
	environment, e := h.Get(x, 1)
	i, ok := field.Fixnum()
	if e != api.OK || !ok || i < 0 || i >= int64(len(t.lambdas)) {
		return nil, 0, false
	}
	return t.lambdas[i], environment, true
}

const closureFields = 2 // the index of the Lambda, and the environment
