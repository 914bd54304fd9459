package meaning

import (
	"commonform/api"
	"commonform/heap"
)

// begin begins a node.
func (r *run) begin(n *node, s *scope) state {
	switch n.Op {
	case api.CoreConst:
		return giving(r.constant(n))
	case api.CoreVar:
		return giving(r.get(s.find(n.key), 0))
	case api.CoreSpecial:
		return r.special(n)
	case api.CoreFunction:
		return r.global(n)
	case api.CoreLambda:
		return giving(r.closure(n, s))
	case api.CoreProgn:
		return r.sequence(n, s)
	case api.CoreLabels:
		return r.labels(n, s)
	case api.CoreBlock:
		return r.block(n, s)
	case api.CoreReturn:
		return r.pushed(&returning{node: n, scope: s}, n.kids[0], s)
	case api.CoreTagbody:
		return r.tagbody(n, s)
	case api.CoreGo:
		return r.exitTo(s.find(n.key), exit{segment: n.segment})
	case api.CoreProtect:
		return r.pushed(&protecting{node: n, scope: s}, n.kids[0], s)
	case api.CoreValuesFirst:
		return r.valuesFirst(n, s)
	}
	return r.collect(&collecting{node: n, scope: s, count: n.cutKids()})
}

// cutKids returns how many kids are evaluated first, one behind the other, and cut.
func (n *node) cutKids() int {
	switch n.Op {
	case api.CoreCall, api.CoreCallGlobal:
		return len(n.kids)
	case api.CoreLet, api.CoreBind:
		return len(n.kids) - 1
	case api.CoreProgv:
		return 2
	}
	return 1
}

// collect begins a node whose first kids are cut.
func (r *run) collect(f *collecting) state {
	if f.count == 0 {
		return r.finish(f)
	}
	return r.pushed(f, f.node.kids[0], f.scope)
}

func (r *run) special(n *node) state {
	symbol := r.symbolOf(n.Data)
	x, _ := r.world.Value(symbol)
	if x == heap.Unbound {
		return r.fault("UNBOUND-VARIABLE", symbol)
	}
	return giving(x)
}

func (r *run) global(n *node) state {
	symbol := r.symbolOf(n.Data)
	x, _ := r.world.Function(symbol)
	if x == heap.Unbound {
		return r.fault("UNDEFINED-FUNCTION", symbol)
	}
	return giving(x)
}

func (r *run) sequence(n *node, s *scope) state {
	switch len(n.kids) {
	case 0:
		return giving(heap.Nil)
	case 1:
		return beginning(n.kids[0], s)
	}
	return r.pushed(&sequence{node: n, scope: s, next: 1}, n.kids[0], s)
}

func (r *run) labels(n *node, s *scope) state {
	for _, v := range n.Vars {
		s = r.bind(s, v, heap.Nil)
	}
	for i, v := range n.Vars {
		r.heap.Set(s.find(v), 0, r.closure(n.kids[i], s))
	}
	return beginning(n.last(), s)
}

// begun returns the number of a block or a tagbody that begins.
func (r *run) begun() heap.Word {
	x, _ := heap.Fix(int64(r.trees.begun))
	r.trees.begun++
	return x
}

// block needs no frame if nothing leads out of it.
func (r *run) block(n *node, s *scope) state {
	if !n.isGoal {
		return beginning(n.kids[0], s)
	}
	id := r.begun()
	return r.pushed(&blocking{id: id}, n.kids[0], s.with(n.key, id))
}

func (r *run) tagbody(n *node, s *scope) state {
	f := &tagging{node: n, scope: s, id: heap.Unbound, next: 1}
	if n.isGoal {
		f.id = r.begun()
		f.scope = s.with(n.key, f.id)
	}
	return r.pushed(f, n.kids[0], f.scope)
}

func (r *run) valuesFirst(n *node, s *scope) state {
	if len(n.kids) == 1 {
		return beginning(n.kids[0], s)
	}
	return r.pushed(&keeping{node: n, scope: s}, n.kids[0], s)
}
