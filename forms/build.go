package forms

import (
	"strconv"

	"commonform/api"
)

// Build returns the normal form of a graph.
func Build(g []Node) (api.Form, api.Errno) {
	if e := CheckGraph(g); e != api.OK {
		return api.Form{}, e
	}
	b := builder{graph: g, places: places(g), labels: make([]string, len(g))}
	f := b.form(0)
	// with more labels than there are numbers it would have too many nodes, too
	if e := checkSize(f); e != api.OK {
		return api.Form{}, e
	}
	return f, api.OK
}

// builder makes forms of nodes in the order of the walk, so that labels get their numbers in that order.
type builder struct {
	graph  []Node
	places []int
	labels []string // of the nodes that have one so far
	next   int      // the number of labels
	forms  int      // the number of forms that were begun
}

// shared reports whether a node needs a label.
func (b *builder) shared(i int) bool {
	return b.places[i] > 1 && hasIdentity(b.graph[i].Kind)
}

// form returns the form of a node in one of its places.
func (b *builder) form(i int) api.Form {
	b.forms++
	if !b.shared(i) {
		return b.body(i)
	}
	if b.labels[i] != "" {
		return api.Form{Kind: api.FormRef, Text: b.labels[i]}
	}
	text := strconv.Itoa(b.next)
	b.next++
	b.labels[i] = text
	return api.Form{Kind: api.FormLabel, Text: text, Kids: []api.Form{b.body(i)}}
}

// body returns the form of a node without its label. A vector may have its parts any number of times, so it ends early where the form is too large anyway.
func (b *builder) body(i int) api.Form {
	node := b.graph[i]
	if node.Kind == api.FormCons {
		return b.list(i)
	}
	f := api.Form{Kind: node.Kind, Text: node.Text, Home: node.Home}
	for _, kid := range node.Kids {
		if b.forms > api.MaxForm {
			break
		}
		f.Kids = append(f.Kids, b.form(kid))
	}
	return f
}

// list returns the form of a cons with those behind it that have no other place.
func (b *builder) list(i int) api.Form {
	var items []api.Form
	for {
		node := b.graph[i]
		items = append(items, b.form(node.Kids[0]))
		i = node.Kids[1]
		if b.graph[i].Kind != api.FormCons || b.shared(i) {
			break
		}
	}
	return join(items, b.form(i))
}
