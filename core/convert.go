package core

import (
	"commonform/api"
	"commonform/forms"
	"commonform/tree"
)

const anyNumber = -1 // of elements

// Convert returns the core tree of an expanded form.
func Convert(f api.Form, specials []api.Form) (made api.Core, e api.Errno) {
	if e := forms.Check(f); e != api.OK {
		return api.Core{}, e
	}
	if hasLabels(f) {
		return api.Core{}, api.ErrForm
	}
	defer func() {
		if failed, ok := recover().(failure); ok {
			made, e = api.Core{}, failed.code
		}
	}()
	made = newConverter(specials).form(f, nil)
	if _, ok := measure(made); !ok {
		return api.Core{}, api.ErrSize
	}
	return made, api.OK
}

func hasLabels(f api.Form) bool {
	if f.Kind == api.FormLabel || f.Kind == api.FormRef {
		return true
	}
	for _, kid := range f.Kids {
		if hasLabels(kid) {
			return true
		}
	}
	return false
}

// failure is what a conversion panics with.
type failure struct{ code api.Errno }

func fail(e api.Errno) { panic(failure{code: e}) }

// want fails if a condition does not hold.
func want(ok bool, e api.Errno) {
	if !ok {
		fail(e)
	}
}

// wantCount fails if a form has not as many elements as it should.
func wantCount(l []api.Form, least, most int) {
	want(len(l) >= least && (most == anyNumber || len(l) <= most), api.ErrForm)
}

// special converts the elements of a special form that stand behind its name.
type special func(k *converter, l []api.Form, s *scope) api.Core

// converter numbers variables, blocks and tags as it meets them.
type converter struct {
	specials map[[2]string]bool
	table    map[string]special
	next     [kindsOfNumbers]int
}

func newConverter(specials []api.Form) *converter {
	k := &converter{specials: map[[2]string]bool{}, table: specialForms()}
	for _, f := range specials {
		if f.Kind == api.FormSymbol {
			k.specials[nameOf(f)] = true
		}
	}
	return k
}

func nameOf(f api.Form) [2]string { return [2]string{f.Home, f.Text} }

func (k *converter) number(kind int) int {
	n := k.next[kind]
	k.next[kind]++
	return n
}

// specialForms returns the special forms by their names.
func specialForms() map[string]special {
	return map[string]special{
		"QUOTE":                (*converter).quote,
		"FUNCTION":             (*converter).function,
		"IF":                   (*converter).choose,
		"PROGN":                (*converter).progn,
		"LET":                  (*converter).let,
		"LET*":                 (*converter).letStar,
		"SETQ":                 (*converter).setq,
		"BLOCK":                (*converter).block,
		"RETURN-FROM":          (*converter).returnFrom,
		"TAGBODY":              (*converter).tagbody,
		"GO":                   (*converter).goTo,
		"CATCH":                (*converter).catch,
		"THROW":                (*converter).throw,
		"UNWIND-PROTECT":       (*converter).protect,
		"MULTIPLE-VALUE-CALL":  (*converter).valuesCall,
		"MULTIPLE-VALUE-PROG1": (*converter).valuesFirst,
		"PROGV":                (*converter).progv,
		"FLET":                 (*converter).flet,
		"LABELS":               (*converter).labels,
		"LOCALLY":              (*converter).locally,
		"THE":                  (*converter).the,
		"LOAD-TIME-VALUE":      (*converter).loadTimeValue,
	}
}

// elements returns those of a proper list, which share its memory.
func elements(f api.Form) ([]api.Form, bool) {
	if forms.IsNil(f) {
		return nil, true
	}
	last := len(f.Kids) - 1
	if f.Kind != api.FormCons || !forms.IsNil(f.Kids[last]) {
		return nil, false
	}
	return f.Kids[:last], true
}

// form converts a form.
func (k *converter) form(f api.Form, s *scope) api.Core {
	switch f.Kind {
	case api.FormSymbol:
		return k.symbol(f, s)
	case api.FormCons:
		return k.call(f, s)
	}
	return constant(f)
}

func (k *converter) kids(l []api.Form, s *scope) []api.Core {
	var all []api.Core
	for _, f := range l {
		all = append(all, k.form(f, s))
	}
	return all
}

func constant(f api.Form) api.Core { return api.Core{Op: api.CoreConst, Data: tree.Copy(f)} }

func isConstant(f api.Form) bool { return forms.IsNil(f) || isTrue(f) || f.Home == keyword }

func (k *converter) symbol(f api.Form, s *scope) api.Core {
	if isConstant(f) {
		return constant(f)
	}
	if n, ok := s.variable(f); ok {
		return api.Core{Op: api.CoreVar, N: n}
	}
	want(f.Home != "", api.ErrForm)
	return api.Core{Op: api.CoreSpecial, Data: tree.Copy(f)}
}

// call converts a list.
func (k *converter) call(f api.Form, s *scope) api.Core {
	l, ok := elements(f)
	want(ok, api.ErrForm)
	head, args := l[0], l[1:]
	if head.Kind == api.FormCons {
		function := k.lambdaForm(head, s)
		return api.Core{Op: api.CoreCall, Kids: append([]api.Core{function}, k.kids(args, s)...)}
	}
	if convert, ok := k.table[head.Text]; ok && head.Home == lisp {
		return convert(k, args, s)
	}
	function := k.functionNamed(head, s)
	if function.Op == api.CoreVar {
		return api.Core{Op: api.CoreCall, Kids: append([]api.Core{function}, k.kids(args, s)...)}
	}
	return api.Core{Op: api.CoreCallGlobal, Data: function.Data, Kids: k.kids(args, s)}
}

// functionNamed returns what a name of a function means.
func (k *converter) functionNamed(f api.Form, s *scope) api.Core {
	want(f.Kind == api.FormSymbol && !isConstant(f), api.ErrForm)
	if n, ok := s.named(ofFunction, f); ok {
		return api.Core{Op: api.CoreVar, N: n}
	}
	want(f.Home != "", api.ErrForm)
	return api.Core{Op: api.CoreFunction, Data: tree.Copy(f)}
}

func (k *converter) function(l []api.Form, s *scope) api.Core {
	wantCount(l, 1, 1)
	if l[0].Kind == api.FormCons {
		return k.lambdaForm(l[0], s)
	}
	return k.functionNamed(l[0], s)
}

func (k *converter) quote(l []api.Form, s *scope) api.Core {
	wantCount(l, 1, 1)
	return constant(l[0])
}

func (k *converter) choose(l []api.Form, s *scope) api.Core {
	wantCount(l, 2, 3)
	kids := k.kids(l, s)
	if len(kids) == 2 {
		kids = append(kids, constant(forms.Nil()))
	}
	return api.Core{Op: api.CoreIf, Kids: kids}
}

func (k *converter) progn(l []api.Form, s *scope) api.Core {
	kids := k.kids(l, s)
	if len(kids) == 1 {
		return kids[0]
	}
	return api.Core{Op: api.CoreProgn, Kids: kids}
}

func (k *converter) setq(l []api.Form, s *scope) api.Core {
	want(len(l)%2 == 0, api.ErrForm)
	for i := 0; i < len(l); i += 2 {
		_, isLexical := s.variable(l[i])
		want(isVariable(l[i]) && (isLexical || l[i].Home != ""), api.ErrForm)
	}
	var kids []api.Core
	for i := 0; i < len(l); i += 2 {
		kids = append(kids, k.set(l[i], l[i+1], s))
	}
	switch len(kids) {
	case 0:
		return constant(forms.Nil())
	case 1:
		return kids[0]
	}
	return api.Core{Op: api.CoreProgn, Kids: kids}
}

func (k *converter) set(v, value api.Form, s *scope) api.Core {
	kids := []api.Core{k.form(value, s)}
	if n, ok := s.variable(v); ok {
		return api.Core{Op: api.CoreSet, N: n, Kids: kids}
	}
	return api.Core{Op: api.CoreSetSpecial, Data: tree.Copy(v), Kids: kids}
}

func (k *converter) the(l []api.Form, s *scope) api.Core {
	wantCount(l, 2, 2)
	return k.form(l[1], s)
}

func (k *converter) loadTimeValue(l []api.Form, s *scope) api.Core {
	wantCount(l, 1, 2)
	return k.form(l[0], s)
}

func (k *converter) valuesCall(l []api.Form, s *scope) api.Core {
	wantCount(l, 1, anyNumber)
	return api.Core{Op: api.CoreValuesCall, Kids: k.kids(l, s)}
}

func (k *converter) valuesFirst(l []api.Form, s *scope) api.Core {
	wantCount(l, 1, anyNumber)
	return api.Core{Op: api.CoreValuesFirst, Kids: k.kids(l, s)}
}
