package forms

import (
	"strconv"

	"commonform/api"
	"commonform/tree"
)

// Normal returns a form with as few labels as possible, in order.
func Normal(f api.Form) (api.Form, api.Errno) {
	if e := Check(f); e != api.OK {
		return api.Form{}, e
	}
	n := normalizer{labels: labelsOf(f)}
	normal := n.rewrite(f)
	if e := checkSize(normal); e != api.OK {
		return api.Form{}, e
	}
	return normal, api.OK
}

// Same reports whether two forms are the same object but for the numbers of labels.
func Same(a, b api.Form) (bool, api.Errno) {
	x, e := Normal(a)
	if e != api.OK {
		return false, e
	}
	y, e := Normal(b)
	if e != api.OK {
		return false, e
	}
	return Equal(x, y), api.OK
}

// label is what is known of a label: what it stands in front of, whether a reference to it has to stay, and its new number.
type label struct {
	kid  api.Form
	used bool
	text string
}

// labelsOf returns the labels of a right form.
func labelsOf(f api.Form) map[string]label {
	labels := map[string]label{}
	for _, node := range walk(f) {
		switch node.Kind {
		case api.FormLabel:
			labels[node.Text] = label{kid: node.Kids[0]}
		case api.FormRef:
			l := labels[node.Text]
			l.used = !isAtom(l.kid.Kind)
			labels[node.Text] = l
		}
	}
	return labels
}

// normalizer rewrites a form in the order of the walk, so that labels get their numbers in that order.
type normalizer struct {
	labels map[string]label
	next   int
}

func (n *normalizer) rewrite(f api.Form) api.Form {
	switch f.Kind {
	case api.FormRef:
		l := n.labels[f.Text]
		if !l.used {
			return tree.Copy(l.kid)
		}
		return api.Form{Kind: api.FormRef, Text: l.text}
	case api.FormLabel:
		l := n.labels[f.Text]
		if !l.used {
			return n.rewrite(l.kid)
		}
		l.text = strconv.Itoa(n.next)
		n.next++
		n.labels[f.Text] = l
		return api.Form{Kind: api.FormLabel, Text: l.text, Kids: []api.Form{n.rewrite(l.kid)}}
	}
	return rebuild(f, n.rewrite)
}

// rebuild returns a node with Kids that were rewritten; a tail that has become a list is joined to the elements.
func rebuild(f api.Form, rewrite func(api.Form) api.Form) api.Form {
	var kids []api.Form
	for _, kid := range f.Kids {
		kids = append(kids, rewrite(kid))
	}
	if f.Kind == api.FormCons {
		last := len(kids) - 1
		return join(kids[:last], kids[last])
	}
	f.Kids = kids
	return f
}

// Plain returns a form without labels: each reference is replaced.
func Plain(f api.Form) (api.Form, api.Errno) {
	if e := Check(f); e != api.OK {
		return api.Form{}, e
	}
	m := measurer{labels: map[string]measured{}}
	size := m.measure(f)
	if m.circular {
		return api.Form{}, ErrCircle
	}
	if size.nodes > api.MaxForm || size.depth > api.MaxDepth {
		return api.Form{}, api.ErrSize
	}
	return m.expand(f), api.OK
}

// extent is the size of a form without labels.
type extent struct {
	nodes, depth int
	list         bool
}

// measured is what is known of a label: it is open while the walk is within its Kid.
type measured struct {
	kid  api.Form
	open bool
	size extent
}

// measurer finds the size of a form without labels before it is made, since that may be beyond all bounds.
type measurer struct {
	labels   map[string]measured
	circular bool
}

func (m *measurer) measure(f api.Form) extent {
	switch f.Kind {
	case api.FormRef:
		l := m.labels[f.Text]
		m.circular = m.circular || l.open
		return l.size
	case api.FormLabel:
		m.labels[f.Text] = measured{open: true}
		size := m.measure(f.Kids[0])
		m.labels[f.Text] = measured{kid: f.Kids[0], size: size}
		return size
	}
	whole := extent{nodes: 1, list: f.Kind == api.FormCons}
	for i, kid := range f.Kids {
		size := m.measure(kid)
		if whole.list && i == len(f.Kids)-1 && size.list { // its elements will stand in its place
			size.nodes--
			size.depth--
		}
		whole.nodes = min(whole.nodes+size.nodes, 2*api.MaxForm)
		whole.depth = max(whole.depth, size.depth)
	}
	whole.depth++
	return whole
}

// expand rewrites a form that comes not back to itself.
func (m *measurer) expand(f api.Form) api.Form {
	switch f.Kind {
	case api.FormRef:
		return m.expand(m.labels[f.Text].kid)
	case api.FormLabel:
		return m.expand(f.Kids[0])
	}
	return rebuild(f, m.expand)
}
