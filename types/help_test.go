package types

import (
	"math"
	"math/big"
	"math/rand"
	"strconv"
	"strings"
	"testing"
	"unicode/utf8"

	"commonform/api"
	"commonform/forms"
	"commonform/reader"
)

// parse reads a form; an uninterned symbol is written #:x, and one of the package % as %::x.
func parse(t *testing.T, text string) api.Form {
	t.Helper()
	r, at, e := reader.One(reader.Standard(lisp), strings.ReplaceAll(text, "%::", "|%|::"))
	if e != api.OK {
		t.Fatalf("%s: %v at %d", text, e, at)
	}
	return r.Form
}

func parseAll(t *testing.T, l ...string) []api.Form {
	t.Helper()
	var all []api.Form
	for _, text := range l {
		all = append(all, parse(t, text))
	}
	return all
}

// show returns a text of any tree.
func show(f api.Form) string {
	text := f.Text
	if f.Kind == api.FormSymbol && f.Home != lisp {
		text = f.Home + ":" + f.Text
	}
	if f.Kind == api.FormString {
		text = strconv.Quote(f.Text)
	}
	if f.Kind != api.FormCons && len(f.Kids) == 0 {
		return text
	}
	var kids []string
	for i, kid := range f.Kids {
		if f.Kind == api.FormCons && i == len(f.Kids)-1 {
			if forms.IsNil(kid) {
				break
			}
			kids = append(kids, ".")
		}
		kids = append(kids, show(kid))
	}
	if f.Kind != api.FormCons {
		text = "#" + strconv.Itoa(f.Kind) + text
	}
	return text + "(" + strings.Join(kids, " ") + ")"
}

func name(s string) api.Form { return forms.Symbol(lisp, s) }

func call(s string, l ...api.Form) api.Form { return forms.Call(s, l) }

// isOne reports whether a text is one of a list of words.
func isOne(text, words string) bool {
	for word := range strings.FieldsSeq(words) {
		if word == text {
			return true
		}
	}
	return false
}

// valueOf returns the exact value of a real number.
func valueOf(x api.Form) *big.Rat {
	switch x.Kind {
	case api.FormInt, api.FormRatio:
		v, _ := new(big.Rat).SetString(x.Text)
		return v
	case api.FormSingle:
		bits, _ := strconv.ParseUint(x.Text, 16, 32)
		return new(big.Rat).SetFloat64(float64(math.Float32frombits(uint32(bits))))
	case api.FormDouble:
		bits, _ := strconv.ParseUint(x.Text, 16, 64)
		return new(big.Rat).SetFloat64(math.Float64frombits(bits))
	}
	return nil
}

// className returns the one of the types of P14.6 of which an object is.
func className(x api.Form) string {
	switch x.Kind {
	case api.FormSymbol:
		if x.Home != "%" {
			return "SYMBOL"
		}
		return map[string]string{"BUILTIN": "FUNCTION", "CLOSURE": "FUNCTION", "TABLE": "HASH-TABLE"}[x.Text]
	case api.FormString, api.FormBits, api.FormVector, api.FormArray:
		return "ARRAY"
	}
	return []string{"", "", "INTEGER", "RATIO", "SINGLE-FLOAT", "DOUBLE-FLOAT", "COMPLEX", "CHARACTER", "", "", "CONS"}[x.Kind]
}

func lengthOf(x api.Form) int {
	switch x.Kind {
	case api.FormString:
		return utf8.RuneCountInString(x.Text)
	case api.FormBits:
		return len(x.Text)
	}
	return len(x.Kids)
}

// isNamed reports whether an object is of a type with a name, by the words of the document.
func isNamed(x api.Form, s string) bool {
	class := className(x)
	integerIn := func(low, high string) bool {
		if class != "INTEGER" {
			return false
		}
		l, _ := new(big.Rat).SetString(low)
		h, _ := new(big.Rat).SetString(high)
		return valueOf(x).Cmp(l) >= 0 && valueOf(x).Cmp(h) <= 0
	}
	switch s {
	case "T":
		return true
	case "NIL":
		return false
	case "ATOM":
		return class != "CONS"
	case "NULL":
		return forms.IsNil(x)
	case "LIST":
		return forms.IsNil(x) || class == "CONS"
	case "KEYWORD":
		return x.Kind == api.FormSymbol && x.Home == "KEYWORD"
	case "BOOLEAN":
		return forms.IsNil(x) || forms.Is(x, lisp, "T")
	case "NUMBER":
		return isOne(class, "INTEGER RATIO SINGLE-FLOAT DOUBLE-FLOAT COMPLEX")
	case "REAL":
		return isOne(class, "INTEGER RATIO SINGLE-FLOAT DOUBLE-FLOAT")
	case "RATIONAL":
		return isOne(class, "INTEGER RATIO")
	case "FLOAT":
		return isOne(class, "SINGLE-FLOAT DOUBLE-FLOAT")
	case "BIT":
		return integerIn("0", "1")
	case "FIXNUM":
		return integerIn("-1152921504606846976", "1152921504606846975")
	case "BIGNUM":
		return class == "INTEGER" && !integerIn("-1152921504606846976", "1152921504606846975")
	case "UNSIGNED-BYTE":
		return class == "INTEGER" && x.Text[0] != '-'
	case "STRING":
		return x.Kind == api.FormString
	case "BIT-VECTOR":
		return x.Kind == api.FormBits
	case "SIMPLE-VECTOR":
		return x.Kind == api.FormVector
	case "VECTOR":
		return class == "ARRAY" && x.Kind != api.FormArray
	case "SEQUENCE":
		return isNamed(x, "LIST") || isNamed(x, "VECTOR")
	}
	return class == s
}

func inBounds(x, t api.Form) bool {
	for i, bound := range t.Kids[1 : len(t.Kids)-1] {
		if forms.Is(bound, lisp, "*") {
			continue
		}
		open := bound.Kind == api.FormCons
		if open {
			bound = bound.Kids[0]
		}
		sign := valueOf(x).Cmp(valueOf(bound))
		if i == 1 {
			sign = -sign
		}
		if sign < 0 || sign == 0 && open {
			return false
		}
	}
	return true
}

func cdr(x api.Form) api.Form {
	if len(x.Kids) == 2 {
		return x.Kids[1]
	}
	return api.Form{Kind: api.FormCons, Kids: x.Kids[1:]}
}

// isMember reports whether an object is of a right type, by the words of the document.
func isMember(x, t api.Form) bool {
	if t.Kind == api.FormSymbol {
		return isNamed(x, t.Text)
	}
	s, l := t.Kids[0].Text, t.Kids[1:len(t.Kids)-1]
	switch s {
	case "AND":
		for _, part := range l {
			if !isMember(x, part) {
				return false
			}
		}
		return true
	case "OR":
		for _, part := range l {
			if isMember(x, part) {
				return true
			}
		}
		return false
	case "NOT":
		return !isMember(x, l[0])
	case "EQL", "MEMBER":
		for _, y := range l {
			if forms.Equal(x, y) {
				return true
			}
		}
		return false
	case "CONS":
		parts := []func() api.Form{func() api.Form { return x.Kids[0] }, func() api.Form { return cdr(x) }}
		is := x.Kind == api.FormCons
		for i, part := range l {
			is = is && (forms.Is(part, lisp, "*") || isMember(parts[i](), part))
		}
		return is
	case "UNSIGNED-BYTE", "SIGNED-BYTE", "MOD":
		return isBytes(x, s, l[0].Text)
	case "STRING", "BIT-VECTOR", "SIMPLE-VECTOR", "VECTOR", "ARRAY":
		return isNamed(x, s) && hasShape(x, l[len(l)-1], s == "ARRAY")
	}
	return isNamed(x, s) && inBounds(x, t)
}

func isBytes(x api.Form, s, text string) bool {
	n, _ := strconv.Atoi(text)
	power := func(n int) *big.Rat { return new(big.Rat).SetInt(new(big.Int).Lsh(big.NewInt(1), uint(n))) }
	low, high := new(big.Rat), new(big.Rat)
	switch s {
	case "UNSIGNED-BYTE":
		high = power(n)
	case "SIGNED-BYTE":
		high = power(n - 1)
		low.Neg(high)
	default:
		high.SetInt64(int64(n))
	}
	return x.Kind == api.FormInt && valueOf(x).Cmp(low) >= 0 && valueOf(x).Cmp(high) < 0
}

func hasShape(x, shape api.Form, array bool) bool {
	dims := strings.Fields(x.Text)
	if x.Kind != api.FormArray {
		dims = []string{strconv.Itoa(lengthOf(x))}
	}
	switch {
	case forms.Is(shape, lisp, "*"):
		return true
	case !array:
		return dims[0] == shape.Text
	case shape.Kind == api.FormInt:
		return strconv.Itoa(len(dims)) == shape.Text
	}
	items, _ := forms.Items(shape)
	if len(items) != len(dims) {
		return false
	}
	for i, item := range items {
		if !forms.Is(item, lisp, "*") && item.Text != dims[i] {
			return false
		}
	}
	return true
}

// maker makes types and objects by chance, of few constants, so that they often meet.
type maker struct{ *rand.Rand }

func (m maker) pick(l ...string) string { return l[m.Intn(len(l))] }

// simple makes a type without parts, as a text.
func (m maker) simple() string {
	switch m.Intn(8) {
	case 0:
		return m.pick("T", "NIL", "ATOM", "CONS", "NULL", "LIST", "SYMBOL", "KEYWORD", "BOOLEAN", "NUMBER", "REAL", "RATIONAL", "INTEGER", "RATIO", "FLOAT", "SINGLE-FLOAT", "DOUBLE-FLOAT", "COMPLEX", "BIT", "FIXNUM", "BIGNUM", "UNSIGNED-BYTE", "CHARACTER", "STRING", "BIT-VECTOR", "SIMPLE-VECTOR", "VECTOR", "ARRAY", "SEQUENCE", "FUNCTION", "HASH-TABLE")
	case 1:
		return m.pick("(MEMBER)", "(EQL 1)", "(EQL 1.0)", "(EQL -0.0)", "(EQL 1d0)", "(EQL 3/2)", "(EQL #C(0 1))", "(EQL #\\a)", "(EQL NIL)", "(EQL T)", "(EQL :K0)", "(MEMBER 0 1 2)", "(MEMBER A :B #\\b 0.0)", "(MEMBER -1 1/2 1.5)")
	case 2:
		return "(" + m.pick("STRING", "BIT-VECTOR", "SIMPLE-VECTOR", "VECTOR *") + " " + m.pick("*", "0", "1", "2") + ")"
	case 3:
		return "(ARRAY * " + m.pick("*", "0", "1", "2", "3", "()", "(*)", "(1)", "(0)", "(2 2)", "(* 2)", "(1 *)", "(0 * *)", "(* * *)", "(1 1 1 1)") + ")"
	case 4:
		return m.pick("(MOD 1)", "(MOD 3)", "(UNSIGNED-BYTE 1)", "(UNSIGNED-BYTE 2)", "(SIGNED-BYTE 1)", "(SIGNED-BYTE 3)")
	}
	kind := m.pick("INTEGER", "RATIONAL", "REAL", "REAL", "FLOAT", "SINGLE-FLOAT", "DOUBLE-FLOAT")
	bounds := []string{"*", "0", "1", "-2", "3", "(0)", "(1)", "(3)"}
	if kind != "INTEGER" {
		bounds = append(bounds, "1/2", "(3/2)")
	}
	if kind != "INTEGER" && kind != "RATIONAL" {
		bounds = append(bounds, "1.5", "(1.0)", "1d0", "(-0.0)", "1/3", "(1/3)")
	}
	return "(" + kind + m.pick("", " "+m.pick(bounds...), " "+m.pick(bounds...)+" "+m.pick(bounds...)) + ")"
}

// specifier makes a type, as a text, with conses up to a depth.
func (m maker) specifier(depth, conses int) string {
	if depth <= 0 {
		return m.simple()
	}
	part := func() string { return m.specifier(depth-1-m.Intn(2), conses) }
	switch m.Intn(6) {
	case 0:
		return "(AND" + strings.Repeat(" "+part(), m.Intn(2)) + " " + part() + ")"
	case 1:
		return "(OR " + part() + " " + part() + ")"
	case 2:
		return "(NOT " + part() + ")"
	case 3, 4:
		if conses == 0 {
			return m.simple()
		}
		cons := func() string { return m.pick("*", m.specifier(depth-1, conses-1), m.specifier(depth-1, conses-1)) }
		return "(CONS" + m.pick("", " "+cons(), " "+cons()+" "+cons()) + ")"
	}
	return m.simple()
}

// atomTexts are atoms among which there is one for each class of what simple makes.
func atomTexts() []string {
	l := strings.Fields("NIL T A B :K0 :B :OTHER #:X %::BUILTIN %::CLOSURE %::TABLE %::BOX #C(0|1) #C(1|2) #C(1.0|0.0) #\\a #\\b #\\c 1152921504606846975 1152921504606846976 -1152921504606846976 -1152921504606846977 100000000000000000000 -100000000000000000000")
	for n := -9; n <= 10; n++ {
		l = append(l, strconv.Itoa(n))
	}
	for _, v := range strings.Fields("-5/2 -3/2 -2/3 1/4 1/3 2/5 1/2 2/3 5/4 3/2 7/4 5/2 7/2 -1/2 99/2 -99/2") {
		l = append(l, v)
	}
	for _, format := range []string{"f0", "d0"} {
		for _, v := range strings.Fields("-3.0 -2.0 -1.5 -0.5 -0.0 0.0 0.25 0.375 0.5 0.75 1.0 1.25 1.5 1.75 2.5 3.0 4.0 99.0 -99.0") {
			l = append(l, v+format)
		}
	}
	return append(l, strings.Fields(`"" "a" "ab" "abc" "éé" #* #*1 #*10 #*100 #() #(A) #(1|2) #0A5 #2A() #2A((1)) #2A((1|1)) #2A((1|1)(1|1)) #2A((1)(1)) #2A((1|1|1)) #3A() #3A((())) #3A(((1))) #3A(((1|1))) #4A((((1)))) #4A(()) #5A((((()))))`)...)
}

// pool has atoms, and conses of some of them.
func pool(t *testing.T) []api.Form {
	t.Helper()
	var atoms, few []api.Form
	for _, text := range atomTexts() {
		atoms = append(atoms, parse(t, strings.ReplaceAll(text, "|", " ")))
	}
	for _, text := range strings.Fields("NIL 0 1 3/2 1.0 -1 #\\a #*1 :K0") {
		few = append(few, parse(t, text))
	}
	all := append([]api.Form{}, atoms...)
	level := few
	for range 2 {
		var longer []api.Form
		for _, car := range append(few[:5:5], level[:3]...) {
			for _, cdr := range level {
				longer = append(longer, forms.Dotted([]api.Form{car}, cdr))
			}
		}
		all = append(all, longer...)
		level = longer
	}
	for _, x := range atoms {
		all = append(all, forms.Dotted([]api.Form{x}, few[0]), forms.Dotted([]api.Form{few[1]}, x))
	}
	return all
}
