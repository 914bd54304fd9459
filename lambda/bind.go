package lambda

import (
	"strconv"

	"commonform/api"
	"commonform/forms"
	"commonform/tree"
)

// The package of fresh variables.
const freshHome = "%"

// So many parameters are counted one by one: for more of them a function is shorter.
const fewParameters = 8

// Bind returns a form that binds the variables of a macro's lambda list.
func Bind(l List, from api.Form, body []api.Form, next int) (api.Form, int, api.Errno) {
	if _, e := Show(l); e != api.OK {
		return api.Form{}, 0, e
	}
	b := binder{next: next}
	positions, hasKeys := l.needs()
	if hasKeys {
		b.find, b.keys = b.bindFresh(b.finder()), b.bindFresh(b.keyChecker())
	}
	if positions > fewParameters {
		b.count = b.bindFresh(b.counter())
	}
	b.level(l, tree.Copy(from))
	made := append([]api.Form{list(b.bindings...)}, tree.Copies(body)...)
	return call("LET*", made...), b.next, api.OK
}

// needs returns how many required and optional parameters there are, also in patterns, and whether there are keys.
func (l List) needs() (positions int, hasKeys bool) {
	positions, hasKeys = l.count(Required)+l.count(Optional), l.Keys
	for _, item := range l.Items {
		if item.Pattern != nil {
			n, has := item.Pattern.needs()
			positions, hasKeys = positions+n, hasKeys || has
		}
	}
	return positions, hasKeys
}

// binder collects the bindings of a LET*. Each variable takes just one, and a list one or two more: core trees are nested as deep as there are bindings. So what is left of a list is in a variable that changes.
type binder struct {
	next     int
	bindings []api.Form
	// the variables of functions that all lists share: for what a key has, for the keys of a list, and for its length
	find, keys, count api.Form
}

func (b *binder) fresh() api.Form {
	f := forms.Symbol(freshHome, strconv.Itoa(b.next))
	b.next++
	return f
}

func (b *binder) bind(v, value api.Form) { b.bindings = append(b.bindings, list(v, value)) }

// bindFresh binds a fresh variable.
func (b *binder) bindFresh(value api.Form) api.Form {
	v := b.fresh()
	b.bind(v, value)
	return v
}

// list returns a proper list of forms that nothing else has, and call one that begins with a symbol of COMMON-LISP.
func list(l ...api.Form) api.Form { return cons(l, forms.Nil()) }

func call(name string, args ...api.Form) api.Form {
	return list(append([]api.Form{forms.Symbol(lisp, name)}, args...)...)
}

func quote(f api.Form) api.Form { return call("QUOTE", f) }

func truth() api.Form { return forms.Symbol(lisp, "T") }

func wrong() api.Form { return call("%BAD-FORM") }

// unless returns a form that calls %BAD-FORM if a test fails.
func unless(test api.Form) api.Form { return call("IF", test, forms.Nil(), wrong()) }

// behind returns a form that goes on to the next element of a list in a variable.
func behind(v api.Form) api.Form { return call("SETQ", v, call("CDR", v)) }

// behindPair goes on to the next key.
func behindPair(v api.Form) api.Form { return call("SETQ", v, call("CDR", call("CDR", v))) }

// pop returns a form that takes the next element.
func pop(v api.Form) api.Form { return call("MULTIPLE-VALUE-PROG1", call("CAR", v), behind(v)) }

// loop returns a form that performs others again and again as long as a variable has a cons, and then another one.
func (b *binder) loop(v, then api.Form, each ...api.Form) api.Form {
	again := b.fresh()
	each = append(each, call("GO", again))
	return call("TAGBODY", again, call("IF", call("CONSP", v), call("PROGN", each...), then))
}

// function returns a function with some parameters.
func function(parameters api.Form, body ...api.Form) api.Form {
	return call("FUNCTION", call("LAMBDA", append([]api.Form{parameters}, body...)...))
}

// level binds the variables of one list.
func (b *binder) level(l List, from api.Form) {
	left := b.bindFresh(b.checked(l, from))
	var pair api.Form // the list from the key on that was looked for
	if l.count(Key) > 0 {
		pair = b.bindFresh(forms.Nil())
	}
	for _, item := range l.Items {
		switch item.Kind {
		case Required:
			b.item(item, pop(left))
		case Optional:
			b.optional(item, left)
		case Rest, Whole: // nothing was taken yet where there is a &WHOLE
			b.item(item, left)
		case Key:
			found := call("SETQ", pair, call("MULTIPLE-VALUE-CALL", b.find, left, quote(tree.Copy(item.Key))))
			b.item(item, call("IF", found, call("CAR", call("CDR", pair)), tree.Copy(item.Init)))
			b.told(item, call("IF", pair, truth(), forms.Nil()))
		case Aux:
			b.item(item, tree.Copy(item.Init))
		case Environment:
			b.item(item, forms.Nil())
		}
	}
}

// item binds the variable of an item, or those of its pattern.
func (b *binder) item(item Item, value api.Form) {
	if item.Pattern != nil {
		b.level(*item.Pattern, value)
		return
	}
	b.bind(tree.Copy(item.Var), value)
}

func (b *binder) told(item Item, value api.Form) {
	if item.isTold() {
		b.bind(tree.Copy(item.Given), value)
	}
}

// optional goes on in the list only where it has told whether there was an argument.
func (b *binder) optional(item Item, left api.Form) {
	taken := pop(left)
	if item.isTold() {
		taken = call("CAR", left)
	}
	b.item(item, call("IF", call("CONSP", left), taken, tree.Copy(item.Init)))
	passed := call("PROGN", behind(left), truth())
	b.told(item, call("IF", call("CONSP", left), passed, forms.Nil()))
}

// checked returns a form with the value of another one, whose arguments fit as a whole: this is known ahead of all init forms.
func (b *binder) checked(l List, from api.Form) api.Form {
	all, at := b.fresh(), b.fresh()
	made := []api.Form{list(list(all, from), list(at, all))}
	made = append(made, b.positions(l, at)...)
	if l.Keys {
		made = append(made, b.pairs(l, at))
	}
	if l.count(Rest) == 0 {
		made = append(made, unless(call("NULL", at)))
	} else if l.count(Required) == 0 { // otherwise it was a cons
		made = append(made, call("IF", call("CONSP", all), forms.Nil(), unless(call("NULL", all))))
	}
	return call("LET*", append(made, all)...)
}

// positions returns forms that go on behind the required and optional arguments.
func (b *binder) positions(l List, at api.Form) []api.Form {
	required := l.count(Required)
	count := required + l.count(Optional)
	if b.count.Kind == 0 {
		var made []api.Form
		for i := range count {
			made = append(made, step(at, i < required))
		}
		return made
	}
	var marks []api.Form
	for i := range count {
		mark := forms.Nil()
		if i < required {
			mark = truth()
		}
		marks = append(marks, mark)
	}
	return []api.Form{call("SETQ", at, call("MULTIPLE-VALUE-CALL", b.count, at, quote(list(marks...))))}
}

// step goes on behind an argument, which must be there if it is required.
func step(at api.Form, required bool) api.Form {
	if required {
		return call("IF", call("CONSP", at), behind(at), wrong())
	}
	return call("IF", call("CONSP", at), behind(at))
}

// pairs returns a form that goes on behind the keys and their values.
func (b *binder) pairs(l List, at api.Form) api.Form {
	var keys []api.Form
	for _, item := range l.Items {
		if item.Kind == Key {
			keys = append(keys, tree.Copy(item.Key))
		}
	}
	others := forms.Nil()
	if l.Allow {
		others = truth()
	}
	return call("SETQ", at, call("MULTIPLE-VALUE-CALL", b.keys, at, quote(list(keys...)), others))
}

// counter returns a function that goes on in a list as long as another one tells of arguments whether they are required, and returns what is left.
func (b *binder) counter() api.Form {
	at, marks := b.fresh(), b.fresh()
	missing := call("IF", call("CAR", marks), wrong())
	one := call("IF", call("CONSP", at), behind(at), missing)
	return function(list(at, marks), b.loop(marks, forms.Nil(), one, behind(marks)), at)
}

// finder returns a function that finds what is left of a list from a key on.
func (b *binder) finder() api.Form {
	at, key, block := b.fresh(), b.fresh(), b.fresh()
	look := call("IF", call("EQ", call("CAR", at), key), call("RETURN-FROM", block, at))
	return function(list(at, key), call("BLOCK", block, b.loop(at, forms.Nil(), look, behindPair(at))))
}

// keyChecker returns a function of what is left, the keys, and whether others are allowed, too, that goes on behind all keys, and returns what is left then.
func (b *binder) keyChecker() api.Form {
	at, keys, others, unknown, first, left, found := b.fresh(), b.fresh(), b.fresh(), b.fresh(), b.fresh(), b.fresh(), b.fresh()
	allow := quote(forms.Symbol(keyword, "ALLOW-OTHER-KEYS"))
	seen := call("IF", first, forms.Nil(), call("SETQ", first, call("CDR", at)))
	is := call("IF", call("EQ", call("CAR", left), call("CAR", at)), call("RETURN-FROM", found, forms.Nil()))
	look := call("BLOCK", found, b.loop(left, call("SETQ", unknown, truth()), is, behind(left)))
	known := call("LET*", list(list(left, keys)), look)
	one := call("IF", call("EQ", call("CAR", at), allow), seen, known)
	all := b.loop(at, forms.Nil(), unless(call("CONSP", call("CDR", at))), one, behindPair(at))
	allowed := call("IF", others, forms.Nil(), unless(call("CAR", first)))
	variables := list(list(unknown, forms.Nil()), list(first, forms.Nil()))
	return function(list(at, keys, others), call("LET*", variables, all, call("IF", unknown, allowed)), at)
}
