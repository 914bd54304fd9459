package lambda

import (
	"iter"

	"commonform/api"
	"commonform/forms"
	"commonform/tree"
)

// Match binds arguments.
func Match(l List, args []api.Form) ([]Binding, api.Errno) {
	var (
		m   matching
		all []Binding
	)
	for b := range m.bindings(l, args, forms.Nil()) {
		all = append(all, b)
	}
	if m.code != api.OK {
		return nil, m.code
	}
	return all, api.OK
}

// matching keeps the first error.
type matching struct{ code api.Errno }

// bindings comes to the variables of a list with their values, up to an error; the arguments may have a tail.
func (m *matching) bindings(l List, args []api.Form, tail api.Form) iter.Seq[Binding] {
	return func(yield func(Binding) bool) {
		m.code = check(l, args, tail)
		if m.code != api.OK {
			return
		}
		x := arguments{list: l, all: args, left: args, tail: tail}
		for _, item := range l.Items {
			if !m.bind(item, x.take(item), yield) {
				return
			}
		}
	}
}

// bind comes to the variables of an item.
func (m *matching) bind(item Item, x argument, yield func(Binding) bool) bool {
	switch {
	case item.Pattern == nil:
		if !yield(x.binding(item.Var)) {
			return false
		}
	case x.given:
		if !m.destructure(*item.Pattern, x.value, yield) {
			return false
		}
	default:
		for _, v := range Variables(*item.Pattern) {
			if !yield(argument{}.binding(v)) {
				return false
			}
		}
	}
	if !item.isTold() {
		return true
	}
	told := argument{given: true, value: forms.Nil()}
	if x.given {
		told.value = forms.Symbol(lisp, "T")
	}
	return yield(told.binding(item.Given))
}

// destructure binds the variables of a pattern to the elements of a list.
func (m *matching) destructure(pattern List, f api.Form, yield func(Binding) bool) bool {
	if !isList(f) {
		m.code = api.ErrForm
		return false
	}
	elements, tail := forms.Spread(f)
	for b := range m.bindings(pattern, elements, tail) {
		if !yield(b) {
			return false
		}
	}
	return m.code == api.OK
}

// argument is what an item gets.
type argument struct {
	given bool
	value api.Form
}

func (x argument) binding(v api.Form) Binding {
	if !x.given {
		return Binding{Var: tree.Copy(v), Value: forms.Nil(), Missing: true}
	}
	return Binding{Var: tree.Copy(v), Value: tree.Copy(x.value)}
}

// arguments are the arguments of a list, and those that are left.
type arguments struct {
	list      List
	all, left []api.Form
	tail      api.Form
}

// take returns what an item gets, and goes on behind it.
func (x *arguments) take(item Item) argument {
	switch item.Kind {
	case Required, Optional:
		if len(x.left) > 0 {
			value := x.left[0]
			x.left = x.left[1:]
			return argument{given: true, value: value}
		}
	case Rest:
		return argument{given: true, value: forms.Dotted(x.left, x.tail)}
	case Whole:
		return argument{given: true, value: forms.Dotted(x.all, x.tail)}
	case Key:
		return find(item.Key, x.left)
	}
	return argument{}
}

// find returns the first value of a key.
func find(key api.Form, pairs []api.Form) argument {
	var found argument
search:
	for i := 0; i+1 < len(pairs); i += 2 {
		if forms.Equal(pairs[i], key) {
			found = argument{given: true, value: pairs[i+1]}
			break search
		}
	}
	return found
}

// check returns the error of all arguments of a list together.
func check(l List, args []api.Form, tail api.Form) api.Errno {
	least, most := Arity(l)
	if len(args) < least || most != anyNumber && len(args) > most {
		return api.ErrSize
	}
	if !forms.IsNil(tail) && l.count(Rest) == 0 {
		return api.ErrForm
	}
	if !l.Keys {
		return api.OK
	}
	left := args[min(len(args), least+l.count(Optional)):]
	if len(left)%2 > 0 {
		return api.ErrForm
	}
	if !l.Allow && !allowsOthers(left) && !l.hasAll(left) {
		return api.ErrNone
	}
	return api.OK
}

func allowsOthers(pairs []api.Form) bool {
	allows := find(forms.Symbol(keyword, "ALLOW-OTHER-KEYS"), pairs)
	return allows.given && !forms.IsNil(allows.value)
}

// hasAll reports whether all keys of pairs are known.
func (l List) hasAll(pairs []api.Form) bool {
	for i := 0; i < len(pairs); i += 2 {
		if !l.hasKey(pairs[i]) {
			return false
		}
	}
	return true
}

func (l List) hasKey(key api.Form) bool {
	for _, item := range l.Items {
		if item.Kind == Key && forms.Equal(item.Key, key) {
			return true
		}
	}
	return forms.Is(key, keyword, "ALLOW-OTHER-KEYS")
}
