package forms

import "commonform/api"

// agreement says how two nodes that are not the same agree.
type agreement int

const (
	differ  agreement = iota
	byValue           // whatever their parts are
	byParts           // if their parts do
)

// Eql reports whether two nodes are eql.
func Eql(g []Node, i, k int) (bool, api.Errno) { return related(g, i, k, eql) }

// Alike reports whether two nodes are equal in Lisp's sense.
func Alike(g []Node, i, k int) (bool, api.Errno) { return related(g, i, k, alike) }

// Similar reports whether two nodes are similar, whatever they share.
func Similar(g []Node, i, k int) (bool, api.Errno) { return related(g, i, k, similar) }

func eql(a, b Node) agreement {
	switch {
	case a.Kind != b.Kind:
		return differ
	case a.Kind == api.FormComplex:
		return byParts
	case (isReal(a.Kind) || a.Kind == api.FormChar) && a.Text == b.Text:
		return byValue
	}
	return differ
}

func alike(a, b Node) agreement {
	if found := eql(a, b); found != differ {
		return found
	}
	switch {
	case a.Kind != b.Kind:
		return differ
	case a.Kind == api.FormCons:
		return byParts
	case (a.Kind == api.FormString || a.Kind == api.FormBits) && a.Text == b.Text:
		return byValue
	}
	return differ
}

func similar(a, b Node) agreement {
	if found := alike(a, b); found != differ {
		return found
	}
	switch {
	case a.Kind != b.Kind:
		return differ
	case a.Kind == api.FormVector && len(a.Kids) == len(b.Kids), a.Kind == api.FormArray && a.Text == b.Text:
		return byParts
	}
	return differ
}

// related reports whether two nodes are in the greatest relation with these agreements: what is marked is taken as related until a pair differs, which no assumption can mend.
func related(g []Node, i, k int, agree func(a, b Node) agreement) (bool, api.Errno) {
	if e := checkIndices(g, i, k); e != api.OK {
		return false, e
	}
	marks := map[[2]int]bool{}
	open := [][2]int{{i, k}}
	for len(open) > 0 {
		pair := open[len(open)-1]
		open = open[:len(open)-1]
		if pair[0] == pair[1] || marks[pair] {
			continue
		}
		marks[pair] = true
		a, b := g[pair[0]], g[pair[1]]
		switch agree(a, b) {
		case differ:
			return false, api.OK
		case byParts:
			for at := range a.Kids {
				open = append(open, [2]int{a.Kids[at], b.Kids[at]})
			}
		}
	}
	return true, api.OK
}

// Coalesce returns the graph in which similar nodes are one.
func Coalesce(g []Node) ([]Node, api.Errno) {
	if e := CheckGraph(g); e != api.OK {
		return nil, e
	}
	c := coalescer{graph: g, class: classes(g), met: map[int]int{}}
	c.add(0)
	return c.nodes, api.OK
}

// coalescer makes the nodes of a graph anew, in the order in which they are met.
type coalescer struct {
	graph []Node
	class []int
	met   map[int]int // the new node of each class
	nodes []Node
}

func (c *coalescer) add(i int) int {
	node := c.graph[i]
	one := hasIdentity(node.Kind) || node.Kind == api.FormSymbol
	if index, there := c.met[c.class[i]]; there && one {
		return index
	}
	index := len(c.nodes)
	c.met[c.class[i]] = index
	c.nodes = append(c.nodes, Node{Kind: node.Kind, Text: node.Text, Home: node.Home})
	for _, kid := range node.Kids {
		part := c.add(kid)
		c.nodes[index].Kids = append(c.nodes[index].Kids, part)
	}
	return index
}

// classes returns numbers that are equal for nodes that are similar. Nodes are taken as similar as long as nothing tells them apart, and then parted by their parts, until that parts no more: this takes fewer steps than to look at all pairs.
func classes(g []Node) []int {
	class, count := valueClasses(g)
	for {
		parted, n := partClasses(g, class)
		if n == count {
			return class
		}
		class, count = parted, n
	}
}

// look is what a node shows without its parts.
type look struct {
	kind, kids int
	text, home string
}

func valueClasses(g []Node) ([]int, int) {
	numbers := map[look]int{}
	class := make([]int, len(g))
	for i, node := range g {
		seen := look{kind: node.Kind, kids: len(node.Kids), text: node.Text, home: node.Home}
		number, there := numbers[seen]
		if !there {
			number = len(numbers)
			numbers[seen] = number
		}
		class[i] = number
	}
	return class, len(numbers)
}

// partClasses parts the nodes of each class by the classes of their parts, which are taken one by one: each pair of what was so far and a further class gets a number.
func partClasses(g []Node, class []int) ([]int, int) {
	numbers := map[[2]int]int{}
	number := func(so, far int) int {
		pair := [2]int{so, far}
		n, there := numbers[pair]
		if !there {
			n = len(numbers)
			numbers[pair] = n
		}
		return n
	}
	const none = -1
	dense := map[int]int{}
	parted := make([]int, len(g))
	for i, node := range g {
		far := number(none, class[i])
		for _, kid := range node.Kids {
			far = number(far, class[kid])
		}
		if _, there := dense[far]; !there {
			dense[far] = len(dense)
		}
		parted[i] = dense[far]
	}
	return parted, len(dense)
}
