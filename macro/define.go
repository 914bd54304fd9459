package macro

import (
	"slices"

	"commonform/api"
	"commonform/forms"
	"commonform/lambda"
	"commonform/lisp"
)

const keyword = "KEYWORD"

// setFunction returns a form that gives a symbol a function.
func setFunction(symbol, function api.Form) api.Form {
	return lisp.Call("%FSET", lisp.Quote(symbol), function)
}

func (m *maker) defun(l []api.Form) api.Form {
	wantCount(l, 2, anyNumber)
	symbol, block := functionName(l[0])
	made := function(l[1], blockBody(block, withoutText(l[2:]))...)
	return lisp.Call("PROGN", setFunction(symbol, made), lisp.Quote(symbol))
}

// blockBody returns a body whose forms stand in a block.
func blockBody(block api.Form, l []api.Form) []api.Form {
	declarations, body := divide(l)
	return append(declarations, lisp.Body("BLOCK", block, body))
}

func (m *maker) defvar(l []api.Form) api.Form {
	wantCount(l, 1, 3)
	wantVariables(l[:1])
	wantText(l)
	name := lisp.Quote(l[0])
	if len(l) == 1 {
		return name
	}
	unbound := lisp.Call("IF", lisp.Call("BOUNDP", name), forms.Nil(), lisp.Call("SET", name, l[1]))
	return lisp.Call("PROGN", unbound, name)
}

func (m *maker) defparameter(l []api.Form) api.Form {
	wantCount(l, 2, 3)
	wantVariables(l[:1])
	wantText(l)
	name := lisp.Quote(l[0])
	return lisp.Call("PROGN", lisp.Call("SET", name, l[1]), name)
}

// wantText fails if there is something behind the value of a variable that is no documentation.
func wantText(l []api.Form) { want(len(l) < 3 || l[2].Kind == api.FormString) }

func (m *maker) defmacro(l []api.Form) api.Form {
	wantCount(l, 1, anyNumber)
	want(isSymbol(l[0]))
	return lisp.Quote(l[0])
}

func (m *maker) declaim(l []api.Form) api.Form { return forms.Nil() }

func (m *maker) defclass(l []api.Form) api.Form {
	wantCount(l, 3, anyNumber)
	name := l[0]
	want(isSymbol(name))
	for _, f := range items(l[1]) {
		want(isSymbol(f))
	}
	a, b := m.Fresh(), m.Fresh()
	var slots, methods []api.Form
	for _, f := range items(l[2]) {
		s := slotOf(f)
		slots = append(slots, s.form())
		methods = append(methods, s.methods(name, a, b)...)
	}
	define := lisp.Call("%DEFCLASS", lisp.Quote(name), lisp.Quote(l[1]), lisp.Call("LIST", slots...))
	return lisp.Body("PROGN", define, methods, []api.Form{lisp.Quote(name)})
}

// slot is what a slot of a class says: pairs of keys and values.
type slot struct {
	name  api.Form
	pairs [][]api.Form
}

func slotOf(f api.Form) slot {
	if isSymbol(f) {
		return slot{name: f}
	}
	l := items(f)
	want(len(l)%2 == 1 && isSymbol(l[0]))
	s := slot{name: l[0]}
	for pair := range slices.Chunk(l[1:], 2) {
		want(isSlotPair(pair[0], pair[1]))
		s.pairs = append(s.pairs, pair)
	}
	return s
}

// isSlotPair reports whether a slot may have a key with a value.
func isSlotPair(key, value api.Form) bool {
	if !isSymbol(key) || key.Home != keyword {
		return false
	}
	switch key.Text {
	case "INITFORM", "TYPE", "DOCUMENTATION":
		return true
	case "INITARG", "READER", "ACCESSOR":
		return isSymbol(value)
	case "ALLOCATION":
		return forms.Is(value, keyword, "INSTANCE") || forms.Is(value, keyword, "CLASS")
	}
	return false
}

// value returns the first value of a key.
func (s slot) value(key string) (api.Form, bool) {
	for _, pair := range s.pairs {
		if pair[0].Text == key {
			return pair[1], true
		}
	}
	return forms.Nil(), false
}

// form returns the form that describes a slot.
func (s slot) form() api.Form {
	initarg, _ := s.value("INITARG")
	init, hasInit := s.value("INITFORM")
	if hasInit {
		init = function(forms.Nil(), init)
	}
	shared := forms.Nil()
	if allocation, _ := s.value("ALLOCATION"); forms.Is(allocation, keyword, "CLASS") {
		shared = lisp.Truth()
	}
	return lisp.Call("LIST", lisp.Quote(s.name), lisp.Quote(initarg), init, shared)
}

// methods returns those of the readers and accessors of a slot.
func (s slot) methods(class, a, b api.Form) []api.Form {
	var all []api.Form
	for _, pair := range s.pairs {
		key, name := pair[0].Text, pair[1]
		if key != "READER" && key != "ACCESSOR" {
			continue
		}
		read := lisp.Call("SLOT-VALUE", a, lisp.Quote(s.name))
		all = append(all, lisp.Call("DEFMETHOD", name, lisp.List(lisp.List(a, class)), read))
		if key == "ACCESSOR" {
			write := lisp.Call("%SET-SLOT-VALUE", b, lisp.Quote(s.name), a)
			all = append(all, lisp.Call("DEFMETHOD", lisp.Call("SETF", name), lisp.List(a, lisp.List(b, class)), write))
		}
	}
	return all
}

func (m *maker) withSlots(l []api.Form) api.Form {
	wantCount(l, 2, anyNumber)
	object := m.Fresh()
	var macros []api.Form
	for _, s := range variables(l[0]) {
		macros = append(macros, lisp.List(s, lisp.Call("SLOT-VALUE", object, lisp.Quote(s))))
	}
	return let(lisp.List(object, l[1]), lisp.Body("SYMBOL-MACROLET", lisp.List(macros...), l[2:]))
}

func (m *maker) defgeneric(l []api.Form) api.Form {
	wantCount(l, 2, anyNumber)
	symbol, _ := functionName(l[0])
	required := 0
	for _, item := range parameters(l[1]).Items {
		if item.Kind == lambda.Required {
			required++
		}
	}
	name, rest := lisp.Quote(symbol), m.Fresh()
	define := lisp.Call("%DEFGENERIC", name, lisp.Quote(combination(l[2:])), lisp.Small(required))
	list := lisp.List(lisp.Symbol("&REST"), rest)
	call := function(list, lisp.Call("%CALL-GENERIC", name, rest))
	return lisp.Call("PROGN", define, setFunction(symbol, call), name)
}

// combination returns the method combination that options name first.
func combination(options []api.Form) api.Form {
	var named []api.Form
	for _, f := range options {
		l := items(f)
		wantCount(l, 1, anyNumber)
		if forms.Is(l[0], keyword, "METHOD-COMBINATION") {
			want(len(l) == 2 && isSymbol(l[1]))
			named = append(named, l[1])
		}
	}
	if len(named) == 0 {
		return lisp.Symbol("STANDARD")
	}
	return named[0]
}

func (m *maker) defmethod(l []api.Form) api.Form {
	wantCount(l, 1, anyNumber)
	symbol, block := functionName(l[0])
	l = l[1:]
	qualifiers := 0
	for qualifiers < len(l) && isSymbol(l[qualifiers]) && !forms.IsNil(l[qualifiers]) {
		qualifiers++
	}
	wantCount(l, qualifiers+1, anyNumber)
	list, specs := specialized(l[qualifiers])
	next, args := m.Fresh(), m.Fresh()
	body := function(list, blockBody(block, l[qualifiers+1:])...)
	name := lisp.Quote(symbol)
	method := lisp.Call("FLET", m.nextFunctions(next, args), lisp.Call("APPLY", body, args))
	return lisp.Call("PROGN",
		lisp.Call("IF", lisp.Call("%GENERIC-P", name), forms.Nil(), lisp.Call("DEFGENERIC", symbol, list)),
		lisp.Call("%DEFMETHOD", name, lisp.Quote(lisp.List(l[:qualifiers]...)), lisp.Call("LIST", specs...),
			function(lisp.List(next, lisp.Symbol("&REST"), args), method)),
		name)
}

// nextFunctions returns the local functions of a method, whose variables have what the next method does, and the arguments.
func (m *maker) nextFunctions(next, args api.Form) api.Form {
	own := m.Fresh()
	chosen := lisp.Call("IF", own, own, args)
	call := lisp.Call("IF", next, lisp.Call("APPLY", next, chosen), lisp.Call("%NO-NEXT-METHOD"))
	rest := lisp.List(lisp.Symbol("&REST"), own)
	is := lisp.Call("IF", next, lisp.Truth(), forms.Nil())
	return lisp.List(lisp.Call("CALL-NEXT-METHOD", rest, call), lisp.Call("NEXT-METHOD-P", forms.Nil(), is))
}

// specialized returns the lambda list of a method without specializers, and the forms of these.
func specialized(f api.Form) (list api.Form, specs []api.Form) {
	isRequired := true
	var names []api.Form
	for _, f := range items(f) {
		spec := lisp.Quote(lisp.Truth())
		if isRequired && f.Kind == api.FormCons {
			parts := items(f)
			wantCount(parts, 2, 2)
			f, spec = parts[0], specializer(parts[1])
			wantVariables(parts[:1])
		}
		isRequired = isRequired && isVariable(f)
		if isRequired {
			specs = append(specs, spec)
		}
		names = append(names, f)
	}
	list = lisp.List(names...)
	parameters(list)
	return list, specs
}

// specializer returns the form of one: of a class, or of an object.
func specializer(f api.Form) api.Form {
	if isSymbol(f) {
		return lisp.Quote(f)
	}
	l := items(f)
	want(len(l) == 2 && lisp.Is(l[0], "EQL"))
	return lisp.Call("LIST", lisp.Quote(lisp.Symbol("EQL")), l[1])
}
