package meaning

import (
	"slices"

	"commonform/api"
	"commonform/heap"
)

// bindDynamic gives symbols values while the last kid of a node is evaluated.
func (r *run) bindDynamic(symbols, values []heap.Word, n *node, s *scope) state {
	for _, symbol := range symbols {
		if r.isConstant(symbol) {
			return r.fault("PROGRAM-ERROR", symbol)
		}
	}
	f := &dynamic{symbols: symbols}
	r.push(f)
	for i, symbol := range symbols {
		x, _ := r.world.Value(symbol)
		f.values = append(f.values, x)
		r.world.SetValue(symbol, values[i])
	}
	return beginning(n.last(), s)
}

// isConstant reports whether the world refuses other values of a symbol.
func (r *run) isConstant(symbol heap.Word) bool {
	x, _ := r.world.Value(symbol)
	return r.world.SetValue(symbol, x) != api.OK
}

// restore gives symbols back what they had, the last one first.
func (r *run) restore(f *dynamic) {
	for i, symbol := range slices.Backward(f.symbols) {
		r.world.SetValue(symbol, f.values[i])
	}
}

// progv gives the elements of one list the values of the other one.
func (r *run) progv(symbolList, valueList heap.Word, n *node, s *scope) state {
	symbols, ok := r.elements(symbolList)
	if !ok {
		return r.typeFault(symbolList, "LIST")
	}
	values, ok := r.elements(valueList)
	if !ok {
		return r.typeFault(valueList, "LIST")
	}
	for _, x := range symbols {
		if _, _, e := r.world.Name(x); e != api.OK {
			return r.typeFault(x, "SYMBOL")
		}
	}
	for len(values) < len(symbols) {
		values = append(values, heap.Unbound)
	}
	return r.bindDynamic(symbols, values, n, s)
}

func (r *run) typeFault(x heap.Word, name string) state {
	return r.fault("TYPE-ERROR", x, r.symbol(lisp, name))
}

// elements returns those of a proper list.
func (r *run) elements(list heap.Word) ([]heap.Word, bool) {
	var all []heap.Word
	for range r.heap.Used() { // no list of different conses is longer
		if r.heap.Kind(list) != heap.KindCons {
			break
		}
		all = append(all, r.get(list, 0))
		list = r.get(list, 1)
	}
	return all, list == heap.Nil
}
