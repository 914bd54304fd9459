package meaning

import (
	"slices"

	"commonform/api"
	"commonform/heap"
	"commonform/lib"
)

// model runs core trees by recursion, with Go's own panics as exits: what the chapter says, written once more. It knows no %FAULT and no parts, and no limit but steps.
type model struct {
	tester
	steps, most int
	constants   map[*api.Core]heap.Word
	closures    []closure
	catches     []*catchPoint
}

type closure struct {
	lambda *api.Core
	env    *bindings
}

// bindings is an environment: variables with cells, blocks and tagbodies with their activations.
type bindings struct {
	kind, number int
	cell         *heap.Word
	active       *activation
	outer        *bindings
}

const (
	variableBinding = iota
	blockBinding
	tagBinding
)

type activation struct{ isLive bool }

type catchPoint struct{ tag heap.Word }

// What the model panics with.
type (
	leaveBlock struct {
		to     *activation
		values []heap.Word
	}
	leaveTo struct {
		to  *activation
		tag int
	}
	thrown struct {
		to     *catchPoint
		values []heap.Word
	}
	faulted struct{ fault lib.Fault }
	ended   struct{ end lib.End }
)

func (b *bindings) find(kind, number int) *bindings {
	for b.kind != kind || b.number != number {
		b = b.outer
	}
	return b
}

func (b *bindings) with(number int, x heap.Word) *bindings {
	return &bindings{kind: variableBinding, number: number, cell: &x, outer: b}
}

// run runs a tree.
func (m *model) run(c *api.Core) (end lib.End) {
	defer func() {
		switch x := recover().(type) {
		case nil:
		case faulted:
			end = lib.End{Kind: lib.EndFault, Fault: x.fault}
		case ended:
			end = x.end
		default:
			panic(x)
		}
	}()
	return lib.End{Values: m.eval(c, nil)}
}

func (m *model) step() {
	if m.steps == m.most {
		panic(ended{end: lib.End{Kind: lib.EndLimit, Code: api.ErrSteps}})
	}
	m.steps++
}

func (m *model) fault(name string, data ...heap.Word) {
	panic(faulted{fault: lib.Fault{Type: name, Data: data}})
}

func (m *model) cut(c *api.Core, env *bindings) heap.Word {
	l := m.eval(c, env)
	if len(l) == 0 {
		return heap.Nil
	}
	return l[0]
}

func (m *model) cuts(l []api.Core, env *bindings) []heap.Word {
	var all []heap.Word
	for i := range l {
		all = append(all, m.cut(&l[i], env))
	}
	return all
}

func one(x heap.Word) []heap.Word { return []heap.Word{x} }

func (m *model) symbolOf(f api.Form) heap.Word {
	x, e := m.Symbol(f.Home, f.Text)
	m.want_(e)
	return x
}

func (m *model) global(f api.Form) heap.Word {
	symbol := m.symbolOf(f)
	x, _ := m.Function(symbol)
	if x == heap.Unbound {
		m.fault("UNDEFINED-FUNCTION", symbol)
	}
	return x
}

func (m *model) eval(c *api.Core, env *bindings) []heap.Word {
	m.step()
	kid := func(i int) *api.Core { return &c.Kids[i] }
	last := len(c.Kids) - 1
	switch c.Op {
	case api.CoreConst:
		x, ok := m.constants[c]
		if !ok {
			x, _ = m.Build(c.Data)
			m.constants[c] = x
		}
		return one(x)
	case api.CoreVar:
		return one(*env.find(variableBinding, c.N).cell)
	case api.CoreSet:
		x := m.cut(kid(0), env)
		*env.find(variableBinding, c.N).cell = x
		return one(x)
	case api.CoreSpecial:
		symbol := m.symbolOf(c.Data)
		x, _ := m.Value(symbol)
		if x == heap.Unbound {
			m.fault("UNBOUND-VARIABLE", symbol)
		}
		return one(x)
	case api.CoreSetSpecial:
		x, symbol := m.cut(kid(0), env), m.symbolOf(c.Data)
		if m.SetValue(symbol, x) != api.OK {
			m.fault("PROGRAM-ERROR", symbol)
		}
		return one(x)
	case api.CoreFunction:
		return one(m.global(c.Data))
	case api.CoreLambda:
		m.closures = append(m.closures, closure{lambda: c, env: env})
		return one(m.object(heap.KindClosure, fixnum(len(m.closures)-1), heap.Nil))
	case api.CoreCall:
		l := m.cuts(c.Kids, env)
		return m.call(l[0], l[1:])
	case api.CoreCallGlobal:
		l := m.cuts(c.Kids, env)
		return m.call(m.global(c.Data), l)
	case api.CoreIf:
		if m.cut(kid(0), env) != heap.Nil {
			return m.eval(kid(1), env)
		}
		return m.eval(kid(2), env)
	case api.CoreProgn:
		values := one(heap.Nil)
		for i := range c.Kids {
			values = m.eval(kid(i), env)
		}
		return values
	case api.CoreLet:
		for i, x := range m.cuts(c.Kids[:last], env) {
			env = env.with(c.Vars[i], x)
		}
		return m.eval(kid(last), env)
	case api.CoreLabels:
		for _, v := range c.Vars {
			env = env.with(v, heap.Nil)
		}
		for i, v := range c.Vars {
			m.closures = append(m.closures, closure{lambda: kid(i), env: env})
			*env.find(variableBinding, v).cell = m.object(heap.KindClosure, fixnum(len(m.closures)-1), heap.Nil)
		}
		return m.eval(kid(last), env)
	case api.CoreBind:
		values := m.cuts(c.Kids[:last], env)
		var symbols []heap.Word
		for _, f := range c.Syms {
			symbols = append(symbols, m.symbolOf(f))
		}
		return m.bind(symbols, values, kid(last), env)
	case api.CoreProgv:
		l := m.cuts(c.Kids[:2], env)
		return m.progv(l[0], l[1], kid(2), env)
	case api.CoreBlock:
		return m.block(c, env)
	case api.CoreReturn:
		values, to := m.eval(kid(0), env), env.find(blockBinding, c.N).active
		if !to.isLive {
			m.fault("CONTROL-ERROR")
		}
		panic(leaveBlock{to: to, values: values})
	case api.CoreTagbody:
		return m.tagbody(c, env)
	case api.CoreGo:
		to := env.find(tagBinding, c.N).active
		if !to.isLive {
			m.fault("CONTROL-ERROR")
		}
		panic(leaveTo{to: to, tag: c.N})
	case api.CoreCatch:
		return m.catch(m.cut(kid(0), env), kid(1), env)
	case api.CoreThrow:
		tag := m.cut(kid(0), env)
		values := m.eval(kid(1), env)
		for _, point := range slices.Backward(m.catches) {
			if point.tag == tag {
				panic(thrown{to: point, values: values})
			}
		}
		m.fault("CONTROL-ERROR", tag)
	case api.CoreProtect:
		return m.protect(c, env)
	case api.CoreValuesCall:
		f := m.cut(kid(0), env)
		var args []heap.Word
		for i := 1; i <= last; i++ {
			args = append(args, m.eval(kid(i), env)...)
		}
		return m.call(f, args)
	}
	values := m.eval(kid(0), env) // CoreValuesFirst
	for i := 1; i <= last; i++ {
		m.eval(kid(i), env)
	}
	return values
}

func (m *model) block(c *api.Core, env *bindings) (values []heap.Word) {
	active := &activation{isLive: true}
	defer func() {
		active.isLive = false
		switch x := recover().(type) {
		case nil:
		case leaveBlock:
			if x.to != active {
				panic(x)
			}
			values = x.values
		default:
			panic(x)
		}
	}()
	return m.eval(&c.Kids[0], &bindings{kind: blockBinding, number: c.N, active: active, outer: env})
}

func (m *model) tagbody(c *api.Core, env *bindings) []heap.Word {
	active := &activation{isLive: true}
	defer func() { active.isLive = false }()
	for _, tag := range c.Vars {
		env = &bindings{kind: tagBinding, number: tag, active: active, outer: env}
	}
	for i := 0; i < len(c.Kids); {
		i = m.segment(c, i, active, env)
	}
	return one(heap.Nil)
}

// segment returns the segment that comes next.
func (m *model) segment(c *api.Core, i int, active *activation, env *bindings) (next int) {
	defer func() {
		switch x := recover().(type) {
		case nil:
		case leaveTo:
			if x.to != active {
				panic(x)
			}
			next = slices.Index(c.Vars, x.tag) + 1
		default:
			panic(x)
		}
	}()
	m.eval(&c.Kids[i], env)
	return i + 1
}

func (m *model) catch(tag heap.Word, body *api.Core, env *bindings) (values []heap.Word) {
	point := &catchPoint{tag: tag}
	m.catches = append(m.catches, point)
	depth := len(m.catches)
	defer func() {
		m.catches = m.catches[:depth-1]
		switch x := recover().(type) {
		case nil:
		case thrown:
			if x.to != point {
				panic(x)
			}
			values = x.values
		default:
			panic(x)
		}
	}()
	return m.eval(body, env)
}

func (m *model) protect(c *api.Core, env *bindings) []heap.Word {
	depth := len(m.catches)
	defer func() {
		x := recover()
		if _, isLimit := x.(ended); isLimit {
			panic(x)
		}
		m.catches = m.catches[:depth]
		m.eval(&c.Kids[1], env)
		if x != nil {
			panic(x)
		}
	}()
	return m.eval(&c.Kids[0], env)
}

func (m *model) bind(symbols, values []heap.Word, body *api.Core, env *bindings) []heap.Word {
	var old []heap.Word
	for _, symbol := range symbols {
		x, _ := m.Value(symbol)
		old = append(old, x)
		if m.SetValue(symbol, x) != api.OK {
			m.fault("PROGRAM-ERROR", symbol)
		}
	}
	for i, symbol := range symbols {
		m.SetValue(symbol, values[i])
	}
	defer func() {
		x := recover()
		if _, isLimit := x.(ended); !isLimit {
			for i, symbol := range symbols {
				m.SetValue(symbol, old[i])
			}
		}
		if x != nil {
			panic(x)
		}
	}()
	return m.eval(body, env)
}

// items returns the elements of a proper list.
func (m *model) items(x heap.Word) []heap.Word {
	var all []heap.Word
	list := x
	for m.Heap().Kind(x) == heap.KindCons {
		car, _ := m.Heap().Get(x, 0)
		all = append(all, car)
		x, _ = m.Heap().Get(x, 1)
	}
	if x != heap.Nil {
		symbol, _ := m.Symbol(lisp, "LIST")
		m.fault("TYPE-ERROR", list, symbol)
	}
	return all
}

func (m *model) progv(symbols, values heap.Word, body *api.Core, env *bindings) []heap.Word {
	names, l := m.items(symbols), m.items(values)
	for _, x := range names {
		if _, _, e := m.Name(x); e != api.OK {
			symbol, _ := m.Symbol(lisp, "SYMBOL")
			m.fault("TYPE-ERROR", x, symbol)
		}
	}
	for len(l) < len(names) {
		l = append(l, heap.Unbound)
	}
	return m.bind(names, l[:len(names)], body, env)
}

func (m *model) call(f heap.Word, args []heap.Word) []heap.Word {
	m.step()
	if m.Heap().Kind(f) == heap.KindClosure {
		return m.enter(f, args)
	}
	a := m.World.Call(f, args)
	switch a.Kind {
	case lib.AnswerValues:
		return a.Values
	case lib.AnswerFault:
		panic(faulted{fault: a.Fault})
	case lib.AnswerNext:
		return m.call(a.Function, a.Values)
	}
	panic(ended{end: lib.End{Kind: lib.EndLimit, Code: a.Code}})
}

func (m *model) enter(f heap.Word, args []heap.Word) []heap.Word {
	field, _ := m.Heap().Get(f, 0)
	i, _ := field.Fixnum()
	c, env := m.closures[i].lambda, m.closures[i].env
	least, most, isRest, hasKeys := 0, 0, false, c.N == 1
	for _, p := range c.Pars {
		switch p.Kind {
		case api.ParamRequired:
			least, most = least+1, most+1
		case api.ParamOptional:
			most++
		case api.ParamRest:
			isRest = true
		case api.ParamKey:
			hasKeys = true
		}
	}
	if len(args) < least || len(args) > most && !isRest && !hasKeys {
		m.fault("PROGRAM-ERROR", f)
	}
	rest := args[min(most, len(args)):]
	if hasKeys && !m.areKeys(c, rest) {
		m.fault("PROGRAM-ERROR", f)
	}
	inits := c.Kids
	truth, _ := m.Symbol(lisp, "T")
	for k, p := range c.Pars {
		var x heap.Word
		isGiven := true
		switch p.Kind {
		case api.ParamRequired, api.ParamOptional:
			if isGiven = k < len(args); isGiven {
				x = args[k]
			}
		case api.ParamRest:
			x = heap.Nil
			for _, y := range slices.Backward(rest) {
				x = m.object(heap.KindCons, y, x)
			}
		case api.ParamKey:
			isGiven = false
			for i := 0; i < len(rest) && !isGiven; i += 2 {
				if rest[i] == m.symbolOf(p.Key) {
					x, isGiven = rest[i+1], true
				}
			}
		}
		if p.Kind == api.ParamOptional || p.Kind == api.ParamKey {
			if !isGiven {
				x = m.cut(&inits[0], env)
			}
			inits = inits[1:]
		}
		env = env.with(p.Var, x)
		if p.Given >= 0 && isGiven {
			env = env.with(p.Given, truth)
		} else if p.Given >= 0 {
			env = env.with(p.Given, heap.Nil)
		}
	}
	return m.eval(&c.Kids[len(c.Kids)-1], env)
}

func (m *model) areKeys(c *api.Core, rest []heap.Word) bool {
	if len(rest)%2 > 0 {
		return false
	}
	isAllowed, isDecided := c.N == 1, false
	isUnknown := false
	for i := 0; i < len(rest); i += 2 {
		home, name, e := m.Name(rest[i])
		if e != api.OK {
			return false
		}
		if home == keyword && name == "ALLOW-OTHER-KEYS" {
			isAllowed = isAllowed || !isDecided && rest[i+1] != heap.Nil
			isDecided = true
			continue
		}
		isUnknown = isUnknown || !slices.ContainsFunc(c.Pars, func(p api.Param) bool {
			return p.Kind == api.ParamKey && m.symbolOf(p.Key) == rest[i]
		})
	}
	return isAllowed || !isUnknown
}
