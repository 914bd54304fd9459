package meaning

import (
	"commonform/api"
	"commonform/heap"
)

// entering is a call of a closure whose parameters are bound one by one; as a frame it waits for the value of an init form.
type entering struct {
	mark
	lambda *node
	scope  *scope
	keys   []heap.Word // of parameters, by their places
	left   []heap.Word // arguments
	at     int         // the next parameter
	kid    int         // the next init form
}

// enter begins a call of a closure.
func (r *run) enter(function heap.Word, args []heap.Word) state {
	n, environment, ok := r.trees.lambda(r.heap, function)
	if !ok {
		return r.typeFault(function, "FUNCTION")
	}
	f := &entering{lambda: n, scope: r.scopeOf(environment), left: args}
	if !r.fits(f) {
		return r.fault("PROGRAM-ERROR", function)
	}
	return r.parameters(f)
}

// fits reports whether the arguments of a call fit as a whole.
func (r *run) fits(f *entering) bool {
	var count [api.ParamKey + 1]int
	for _, p := range f.lambda.Pars {
		count[p.Kind]++
	}
	least := count[api.ParamRequired]
	most := least + count[api.ParamOptional]
	hasKeys := count[api.ParamKey] > 0 || f.lambda.N == 1
	if len(f.left) < least || len(f.left) > most && count[api.ParamRest] == 0 && !hasKeys {
		return false
	}
	if !hasKeys {
		return true
	}
	pairs := f.left[min(most, len(f.left)):]
	if len(pairs)%2 > 0 {
		return false
	}
	f.keys = r.keysOf(f.lambda)
	others := f.lambda.N == 1 || r.allowsOthers(pairs)
	for i := 0; i < len(pairs); i += 2 {
		if _, _, e := r.world.Name(pairs[i]); e != api.OK {
			return false
		}
		if !others && !r.isKnown(f, pairs[i]) {
			return false
		}
	}
	return true
}

// keysOf returns the symbols of the keys of a Lambda, by the places of their parameters; Unbound for those that have no home.
func (r *run) keysOf(n *node) []heap.Word {
	all := make([]heap.Word, len(n.Pars))
	for i, p := range n.Pars {
		all[i] = heap.Unbound
		if p.Kind == api.ParamKey && p.Key.Home != "" {
			all[i] = r.symbolOf(p.Key)
		}
	}
	return all
}

// isKnown reports whether a symbol is a key of a call, or may stand in each.
func (r *run) isKnown(f *entering, x heap.Word) bool {
	for i := range f.keys {
		if r.isKey(f, i, x) {
			return true
		}
	}
	return r.isAllowOthers(x)
}

// isKey reports whether a symbol is the key of a parameter. A key without a home is no symbol that the world could find: its name must do.
func (r *run) isKey(f *entering, i int, x heap.Word) bool {
	p := f.lambda.Pars[i]
	if p.Kind != api.ParamKey || p.Key.Home != "" {
		return x == f.keys[i]
	}
	home, name, e := r.world.Name(x)
	return e == api.OK && home == "" && name == p.Key.Text
}

func (r *run) isAllowOthers(x heap.Word) bool {
	home, name, _ := r.world.Name(x)
	return home == keyword && name == "ALLOW-OTHER-KEYS"
}

// allowsOthers reports whether the first value of :ALLOW-OTHER-KEYS is not NIL.
func (r *run) allowsOthers(pairs []heap.Word) bool {
	for i := 0; i < len(pairs); i += 2 {
		if r.isAllowOthers(pairs[i]) {
			return pairs[i+1] != heap.Nil
		}
	}
	return false
}

// parameters binds parameters, up to one that needs the value of its init form.
func (r *run) parameters(f *entering) state {
	for f.at < len(f.lambda.Pars) {
		p := f.lambda.Pars[f.at]
		switch p.Kind {
		case api.ParamRequired:
			r.take(f, p)
		case api.ParamRest:
			f.scope = r.bind(f.scope, p.Var, r.list(f.left))
			f.at++
		case api.ParamOptional:
			if len(f.left) == 0 {
				return r.pushed(f, f.lambda.kids[f.kid], f.scope)
			}
			r.take(f, p)
		default:
			x, ok := r.keyed(f)
			if !ok {
				return r.pushed(f, f.lambda.kids[f.kid], f.scope)
			}
			r.parameter(f, p, x, true)
		}
	}
	return beginning(f.lambda.last(), f.scope)
}

// take binds a parameter to the next argument.
func (r *run) take(f *entering, p api.Param) {
	x := f.left[0]
	f.left = f.left[1:]
	r.parameter(f, p, x, true)
}

// keyed returns the argument behind the key of the next parameter.
func (r *run) keyed(f *entering) (heap.Word, bool) {
	for i := 0; i < len(f.left); i += 2 {
		if r.isKey(f, f.at, f.left[i]) {
			return f.left[i+1], true
		}
	}
	return 0, false
}

// parameter binds a parameter to a value, and its second variable to whether it was given.
func (r *run) parameter(f *entering, p api.Param, x heap.Word, isGiven bool) {
	f.scope = r.bind(f.scope, p.Var, x)
	if p.Given >= 0 {
		f.scope = r.bind(f.scope, p.Given, r.truth(isGiven))
	}
	if p.Kind == api.ParamOptional || p.Kind == api.ParamKey {
		f.kid++
	}
	f.at++
}

// entered goes on with the value of an init form.
func (r *run) entered(f *entering, x heap.Word) state {
	r.parameter(f, f.lambda.Pars[f.at], x, false)
	return r.parameters(f)
}
