package lambda

import (
	"commonform/api"
	"commonform/forms"
	"commonform/tree"
)

// Show returns a lambda list. It has as few nodes as can be, so that there is one wherever Parse has one; a tail instead of &REST, which only macros take, is the last resort.
func Show(l List) (api.Form, api.Errno) {
	for _, dotted := range []bool{false, true} {
		w := writer{dotted: dotted, left: api.MaxForm}
		f, ok := w.list(l, 1)
		if !ok {
			continue
		}
		if back, e := Parse(f, true); e == api.OK && isSame(l, back) {
			return tree.Copy(f), api.OK
		}
	}
	return api.Form{}, api.ErrForm
}

// writer writes lists that need not be right; what it writes shares their memory.
type writer struct {
	dotted bool // whether the outermost list may have a tail
	left   int  // how many more items there may be: patterns can be circles
}

// list returns a list in a depth.
func (w *writer) list(l List, depth int) (api.Form, bool) {
	if depth > api.MaxDepth {
		return api.Form{}, false
	}
	out := written{list: l}
	for i, item := range l.Items {
		w.left--
		f, ok := w.item(item, depth)
		if !ok || w.left < 0 {
			return api.Form{}, false
		}
		isLast := i == len(l.Items)-1 && !l.Keys
		if item.Kind == Rest && isLast && len(out.elements) > 0 && (w.dotted || depth > 1) {
			return cons(out.elements, f), true
		}
		out.mark(item.Kind)
		out.elements = append(out.elements, f)
	}
	out.keys(l.Allow)
	return cons(out.elements, forms.Nil()), true
}

// cons returns a list that shares the memory of its elements.
func cons(elements []api.Form, tail api.Form) api.Form {
	if len(elements) == 0 {
		return tail
	}
	return api.Form{Kind: api.FormCons, Kids: append(elements, tail)}
}

// written is what was written of a list.
type written struct {
	list     List
	elements []api.Form
	marked   string // the marker of the group
	hasKeys  bool
	hasAllow bool
}

func (x *written) symbol(name string) {
	x.elements = append(x.elements, forms.Symbol(lisp, name))
}

// mark writes the markers ahead of an item.
func (x *written) mark(kind int) {
	switch kind {
	case Whole:
		x.symbol(markWhole)
	case Environment:
		x.symbol(markEnvironment)
	case Rest:
		x.symbol(markRest)
	case Optional:
		x.group(markOptional)
	case Key:
		x.keys(false)
	case Aux:
		x.keys(x.list.Allow)
		x.group(markAux)
	}
}

func (x *written) group(marker string) {
	if x.marked != marker {
		x.symbol(marker)
		x.marked = marker
	}
}

// keys writes the markers of keys, if there are some that were not written.
func (x *written) keys(allow bool) {
	if x.list.Keys && !x.hasKeys {
		x.symbol(markKey)
		x.hasKeys = true
	}
	if allow && !x.hasAllow {
		x.symbol(markAllow)
		x.hasAllow = true
	}
}

// item returns an item without its marker.
func (w *writer) item(item Item, depth int) (api.Form, bool) {
	target := item.Var
	if item.Pattern != nil {
		f, ok := w.list(*item.Pattern, depth+1)
		if !ok {
			return api.Form{}, false
		}
		target = f
	}
	isPlain := item.Pattern == nil || item.Kind == Required
	if item.Kind == Key && (item.Pattern != nil || !forms.Equal(item.Key, forms.Symbol(keyword, item.Var.Text))) {
		target, isPlain = cons([]api.Form{item.Key, target}, forms.Nil()), false
	}
	parts := []api.Form{target}
	if hasInit(item.Kind) && (item.isTold() || !forms.IsNil(item.Init)) {
		parts = append(parts, item.Init)
	}
	if item.isTold() {
		parts = append(parts, item.Given)
	}
	if isPlain && len(parts) == 1 {
		return target, true
	}
	return cons(parts, forms.Nil()), true
}

// isSame reports whether a list says what one says that Parse returned.
func isSame(l, parsed List) bool {
	if l.Keys != parsed.Keys || l.Allow != parsed.Allow || len(l.Items) != len(parsed.Items) {
		return false
	}
	for i, item := range parsed.Items {
		if !l.Items[i].isLike(item) {
			return false
		}
	}
	return true
}

// isLike compares items; where there can be no init form, the zero form is as good as NIL.
func (x Item) isLike(y Item) bool {
	if !hasInit(x.Kind) && x.Init.Kind == 0 {
		x.Init = forms.Nil()
	}
	if x.Kind != y.Kind || (x.Pattern == nil) != (y.Pattern == nil) {
		return false
	}
	for _, pair := range [][2]api.Form{{x.Var, y.Var}, {x.Init, y.Init}, {x.Given, y.Given}, {x.Key, y.Key}} {
		if !forms.Equal(pair[0], pair[1]) {
			return false
		}
	}
	return x.Pattern == nil || isSame(*x.Pattern, *y.Pattern)
}
