package types

import (
	"strconv"

	"commonform/api"
	"commonform/forms"
	"commonform/number"
)

const (
	maxNodes     = 100
	maxConses    = 4
	maxDigits    = 200
	maxLength    = 50
	maxRank      = 4
	maxDimension = 4
	maxBits      = 200
	maxMod       = 1000000000
)

// failure is what reading a wrong specifier panics with.
type failure struct{}

func wrong() { panic(failure{}) }

// readAll returns the types of some specifiers, or the first error of one.
func readAll(l []api.Form) ([]*specifier, api.Errno) {
	var all []*specifier
	for _, t := range l {
		s, e := read(t)
		if e != api.OK {
			return nil, e
		}
		all = append(all, s)
	}
	return all, api.OK
}

// read returns the type of a specifier, or its error.
func read(t api.Form) (s *specifier, e api.Errno) {
	if forms.Check(t) != api.OK || !rightSize(t) {
		return nil, ErrType
	}
	defer func() {
		if _, ok := recover().(failure); ok {
			s, e = nil, ErrType
		}
	}()
	return reading{names: names()}.specifier(t), api.OK
}

// rightSize reports whether a specifier has not too many nodes, and no number that is too long.
func rightSize(t api.Form) bool {
	nodes, _ := forms.Size(t)
	return nodes <= maxNodes && rightNumbers(t)
}

func rightNumbers(t api.Form) bool {
	if forms.Number(t) && (len(t.Text) > maxDigits || number.Check(t) != api.OK) {
		return false
	}
	for _, kid := range t.Kids {
		if !rightNumbers(kid) {
			return false
		}
	}
	return true
}

// reading reads one specifier: with the kinds that have names, in some conses.
type reading struct {
	names  map[string]kinds
	conses int
}

func (r reading) specifier(t api.Form) *specifier {
	if t.Kind == api.FormSymbol && t.Home == lisp {
		if s, ok := r.named(t.Text); ok {
			return s
		}
	}
	items, ok := forms.Items(t)
	if !ok || len(items) == 0 || items[0].Kind != api.FormSymbol || items[0].Home != lisp {
		wrong()
	}
	return r.compound(items[0].Text, items[1:])
}

// compound reads a list of a name and others.
func (r reading) compound(name string, l []api.Form) *specifier {
	switch name {
	case "AND":
		return &specifier{op: opAnd, parts: r.all(l)}
	case "OR":
		return &specifier{op: opOr, parts: r.all(l)}
	case "NOT":
		checkCount(l, 1, 1)
		return &specifier{op: opNot, parts: r.all(l)}
	case "EQL":
		checkCount(l, 1, 1)
		return objects(l)
	case "MEMBER":
		return objects(l)
	case "INTEGER", "RATIONAL", "REAL", "FLOAT", "SINGLE-FLOAT", "DOUBLE-FLOAT":
		checkCount(l, 0, 2)
		return r.numbers(name, l)
	case "UNSIGNED-BYTE", "SIGNED-BYTE", "MOD":
		checkCount(l, 1, 1)
		return bytes(name, l[0])
	case "CONS":
		checkCount(l, 0, 2)
		return r.cons(l)
	case "STRING", "BIT-VECTOR", "SIMPLE-VECTOR":
		checkCount(l, 1, 1)
		return r.vector(name, l[0])
	case "VECTOR":
		checkCount(l, 2, 2)
		checkStar(l[0])
		return r.vector(name, l[1])
	case "ARRAY":
		checkCount(l, 2, 2)
		checkStar(l[0])
		return &specifier{kinds: r.names[name], shape: shapeOf(l[1])}
	}
	wrong()
	return nil
}

func (r reading) all(l []api.Form) []*specifier {
	var all []*specifier
	for _, t := range l {
		all = append(all, r.specifier(t))
	}
	return all
}

func checkCount(l []api.Form, least, most int) {
	if len(l) < least || len(l) > most {
		wrong()
	}
}

func isStar(t api.Form) bool { return forms.Is(t, lisp, "*") }

func checkStar(t api.Form) {
	if !isStar(t) {
		wrong()
	}
}

// objects reads objects that a type has.
func objects(l []api.Form) *specifier {
	for _, x := range l {
		switch {
		case x.Kind == api.FormSymbol && x.Home != "" && x.Home != noForm:
		case forms.Number(x), x.Kind == api.FormChar:
		default:
			wrong()
		}
	}
	return &specifier{op: opObjects, objects: l}
}

// numbers reads a type of numbers between bounds.
func (r reading) numbers(name string, l []api.Form) *specifier {
	s := &specifier{kinds: r.names[name]}
	for i, b := range [2]*bound{&s.low, &s.high} {
		if i < len(l) {
			*b = boundOf(name, l[i])
		}
	}
	return s
}

func boundOf(name string, t api.Form) bound {
	if isStar(t) {
		return bound{}
	}
	b := bound{given: true, value: t}
	if t.Kind == api.FormCons {
		items, ok := forms.Items(t)
		if !ok || len(items) != 1 {
			wrong()
		}
		b.open, b.value = true, items[0]
	}
	whole := b.value.Kind == api.FormInt
	exact := whole || b.value.Kind == api.FormRatio
	switch {
	case !forms.Number(b.value), b.value.Kind == api.FormComplex, name == "INTEGER" && !whole, name == "RATIONAL" && !exact:
		wrong()
	}
	return b
}

// small reads an integer in a range.
func small(t api.Form, least, most int) int {
	n, err := strconv.Atoi(t.Text)
	if t.Kind != api.FormInt || err != nil || n < least || n > most {
		wrong()
	}
	return n
}

// bytes reads a type of integers that a number of bits, or of values, has.
func bytes(name string, t api.Form) *specifier {
	switch name {
	case "MOD":
		return integers(whole(0), whole(small(t, 1, maxMod)-1))
	case "UNSIGNED-BYTE":
		return integers(whole(0), less(power(small(t, 1, maxBits)), 1))
	}
	half := power(small(t, 1, maxBits) - 1)
	low, _ := number.Neg(half)
	return integers(low, less(half, 1))
}

// integers returns the type of the integers between two, both included.
func integers(low, high api.Form) *specifier {
	return &specifier{kinds: kindsOf(kindInteger), low: bound{given: true, value: low}, high: bound{given: true, value: high}}
}

func integerOf(text string) api.Form { return api.Form{Kind: api.FormInt, Text: text} }

func whole(n int) api.Form { return integerOf(strconv.Itoa(n)) }

// power returns 2^n.
func power(n int) api.Form {
	x, _ := number.Power(whole(2), n)
	return x
}

func less(x api.Form, by int) api.Form {
	y, _ := number.Sub(x, whole(by))
	return y
}

// cons reads a type of conses.
func (r reading) cons(l []api.Form) *specifier {
	r.conses++
	if r.conses > maxConses {
		wrong()
	}
	parts := []*specifier{{kinds: allKinds}, {kinds: allKinds}}
	for i, t := range l {
		if !isStar(t) {
			parts[i] = r.specifier(t)
		}
	}
	return &specifier{op: opCons, parts: parts}
}

// vector reads a type of vectors with a length.
func (r reading) vector(name string, t api.Form) *specifier {
	s := &specifier{kinds: r.names[name], shape: shape{given: true, rank: 1, dims: []int{free}}}
	if !isStar(t) {
		s.shape.dims[0] = small(t, 0, maxLength)
	}
	return s
}

// shapeOf reads dimensions, or their number.
func shapeOf(t api.Form) shape {
	if isStar(t) {
		return shape{given: true, rank: free}
	}
	if t.Kind == api.FormInt {
		return shape{given: true, rank: small(t, 0, maxRank)}
	}
	items, ok := forms.Items(t)
	if !ok || len(items) > maxRank {
		wrong()
	}
	s := shape{given: true, rank: len(items)}
	for _, item := range items {
		d := free
		if !isStar(item) {
			d = small(item, 0, maxDimension)
		}
		s.dims = append(s.dims, d)
	}
	return s
}
