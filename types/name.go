package types

// The greatest and the least fixnum.
const (
	leastFixnum    = "-1152921504606846976"
	greatestFixnum = "1152921504606846975"
)

// names returns the kinds of objects of the types that have names alone.
func names() map[string]kinds {
	symbols := kindsOf(kindNil, kindT, kindKeyword, kindSymbol)
	rational := kindsOf(kindInteger, kindRatio)
	floats := kindsOf(kindSingle, kindDouble)
	vectors := kindsOf(kindString, kindBits, kindVector)
	return map[string]kinds{
		"T": allKinds, "NIL": 0, "ATOM": allKinds &^ kindsOf(kindCons), "CONS": kindsOf(kindCons),
		"NULL": kindsOf(kindNil), "LIST": kindsOf(kindNil, kindCons), "SYMBOL": symbols, "KEYWORD": kindsOf(kindKeyword), "BOOLEAN": kindsOf(kindNil, kindT),
		"NUMBER": rational | floats | kindsOf(kindComplex), "REAL": rational | floats, "RATIONAL": rational, "INTEGER": kindsOf(kindInteger), "RATIO": kindsOf(kindRatio),
		"FLOAT": floats, "SINGLE-FLOAT": kindsOf(kindSingle), "DOUBLE-FLOAT": kindsOf(kindDouble), "COMPLEX": kindsOf(kindComplex), "CHARACTER": kindsOf(kindChar),
		"STRING": kindsOf(kindString), "BIT-VECTOR": kindsOf(kindBits), "SIMPLE-VECTOR": kindsOf(kindVector), "VECTOR": vectors, "ARRAY": vectors | kindsOf(kindArray),
		"SEQUENCE": vectors | kindsOf(kindNil, kindCons), "FUNCTION": kindsOf(kindFunction), "HASH-TABLE": kindsOf(kindTable),
	}
}

// named returns the type with a name, if there is one.
func (r reading) named(name string) (*specifier, bool) {
	switch name {
	case "BIT":
		return integers(whole(0), whole(1)), true
	case "FIXNUM":
		return fixnums(), true
	case "BIGNUM":
		others := &specifier{op: opNot, parts: []*specifier{fixnums()}}
		return &specifier{op: opAnd, parts: []*specifier{{kinds: kindsOf(kindInteger)}, others}}, true
	case "UNSIGNED-BYTE":
		return &specifier{kinds: kindsOf(kindInteger), low: bound{given: true, value: whole(0)}}, true
	}
	set, ok := r.names[name]
	return &specifier{kinds: set}, ok
}

func fixnums() *specifier { return integers(integerOf(leastFixnum), integerOf(greatestFixnum)) }
