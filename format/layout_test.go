package format

import (
	"strings"
	"testing"

	"commonform/api"
)

// P13.1: line feeds, form feeds, tildes, and ends of lines.
func TestLines(t *testing.T) {
	check(t,
		put("a~%b~2%c~0%~|~3|~~~2~", "a\nb\n\nc\f\f\f\f~~~"), put("~&a~&b~2&c~0&d~&~&", "a\nb\n\ncd\n"), put("a~%~&b~%~2&c", "a\nb\n\nc"), put("~A~&b~A~&c", "x\nbx\nc", str("x"), str("x")), put("~A~&b", "x\nb", str("x\n")),
	)
	check(t, put("~v%~#%|~A", "\n\n\n|5", num("2"), num("5")), put("~1000%", strings.Repeat("\n", 1000)))
	check(t,
		put("a~\n   b~\n\t \tc", "abc"), put("a~:\n   b", "a   b"), put("a~@\n   b", "a\nb"), put("a~:@\n   b", "a\n   b"), put("a~\n~\nb", "ab"), put("a~\n\nb", "a\nb"), put("a~\n xb", "axb"), put("a~\n\r b", "a\r b"), put("a~\n", "a"), put("a~@\n~&b", "a\nb"),
		fails("~1001%", api.ErrRange), fails("~-1%", api.ErrRange), fails("~'x%", api.ErrType), fails("~1001|", api.ErrRange), fails("~1001~", api.ErrRange), fails("~1001&", api.ErrRange), fails("~v%", api.ErrNone),
	)
}

// P13.1: columns.
func TestTabulate(t *testing.T) {
	check(t,
		put("ab~6Tc", "ab    c"), put("~6Tc", "      c"), put("~T|~T|", " | |"), put("abc~1,4Td", "abc  d"), put("abcde~1,4Td", "abcde    d"), put("abcdef~2,4Td", "abcdef    d"), put("abc~3Td", "abc d"), put("abc~3,0Td", "abcd"), put("abc~2,0Td", "abcd"), put("abc~5,0Td", "abc  d"), put("abc~0,0Td", "abcd"), put("abc~0,2Td", "abc d"), put("abcd~0,2Td", "abcd  d"), put("~0Ta", " a"), put("~0,0Ta", "a"), put("a\nbc~4Td", "a\nbc  d"), put("~A~5Tx", "a\nbcd  x", str("a\nbcd")), put("é~4Tx", "é  x"), put("a~vTx", "a  x", num("3")),
		put("ab~2,4@Tc", "ab  c"), put("ab~1,4@Tc", "ab  c"), put("abc~2,4@Td", "abc     d"), put("abc~@Td", "abc d"), put("abc~3@Td", "abc   d"), put("abc~3,0@Td", "abc   d"), put("abc~0,4@Td", "abc d"), put("abcd~0,4@Td", "abcdd"), put("~0,4@Td", "d"), put("~0,0@Td", "d"), put("~,3@Td", "   d"),
		fails("~1001T", api.ErrRange), fails("~,1001T", api.ErrRange), fails("~'xT", api.ErrType), fails("~-1@T", api.ErrRange), fails("~v,1001T", api.ErrNone), put("~1000,1000T", strings.Repeat(" ", 1000)),
	)
}

// P13.1: going through the arguments.
func TestPass(t *testing.T) {
	l := nums("1 2 3")
	check(t,
		put("~*~A", "2", l...), put("~2*~A", "3", l...), put("~0*~A", "1", l...), put("~3*", "", l...), put("~A~:*~A", "11", l...), put("~A~A~2:*~A", "121", l...), put("~A~0:*~A", "12", l...), put("~A~@*~A", "11", l...), put("~2@*~A", "3", l...), put("~3@*", "", l...), put("~A~3@*~:*~A", "13", l...), put("~A~1@*~A", "12", l...), put("~v*~A", "3", l...), put("~#*", "", l...),
		fails("~4*", api.ErrNone, l...), fails("~3*~*", api.ErrNone, l...), fails("~:*", api.ErrNone, l...), fails("~A~2:*", api.ErrNone, l...), fails("~4@*", api.ErrNone, l...), fails("~1001*", api.ErrRange, l...), fails("~-1:*", api.ErrRange, l...), fails("~1001@*", api.ErrRange, l...), fails("~'x*", api.ErrType, l...), fails("~v:*", api.ErrNone, num("2")), put("~v:*", "", num("1")), put("~v@*~A", "0", num("0")),
	)
}

// P13.1: control strings as arguments.
func TestControl(t *testing.T) {
	one := num("1")
	check(t,
		put("~? ~A", "<1> 2", str("<~A>"), list(one), num("2")), put("~@? ~A", "<1> 2", str("<~A>"), one, num("2")), put("~?|~A", "|2", str(""), list(), num("2")), put("~?~A", "12", str("~A"), list(one, one), num("2")), put("~?~A", "a2", str("a~^b"), list(), num("2")),
	)
	check(t,
		put("~?~A", "a2", str("a~0^b"), list(one), num("2")), put("~@?~A", "a2", str("a~0^b"), num("2")), put("~A~@?", "11", one, str("~2:*~A")), put("~A~@?", "11", one, str("~@*~A")), put("~A~?", "1a", one, str("a"), list()), put("ab~?c", "ab  xc", str("~4Tx"), list()), put("~@?", "1 2", str("~A ~@?"), one, str("~A"), num("2")), put("~?", "1", str("~?"), list(str("~A"), list(one))), put("~(~?~)", "abc", str("A~AC"), list(str("B"))),
		fails("~?", api.ErrNone), fails("~?", api.ErrNone, str("")), fails("~?", api.ErrType, one), fails("~?", api.ErrType, str(""), one), fails("~?", api.ErrType, str(""), node(api.FormCons, "", one, one)), fails("~?", api.ErrType, list(), list()), fails("~@?", api.ErrType, one), fails("~@?", api.ErrNone),
		fails("~?", api.ErrForm, str("~Q"), list()), fails("~@?", api.ErrForm, str("~(")), fails("~?", api.ErrForm, str(strings.Repeat("x", 4001)), list()), fails("~?", api.ErrType, str("~Q"), one), fails("~?", api.ErrNone, str("~Q")), fails("~:{~?~}", api.ErrForm, list(list(str("~:^"), list()))), fails("~?", api.ErrNone, str("~A"), list()), fails("~?", api.ErrNone, str("~:*"), list(one)), fails("~A~?", api.ErrNone, one, str("~:*"), list()), fails("~?", api.ErrNone, str("~2@*"), list(one)),
	)
}

// P13.1: ~? may stand in 20 others; what is wrong with its arguments is told first.
func TestDeepControl(t *testing.T) {
	nested := func(n int, innermost ...api.Form) []api.Form {
		l := innermost
		for range n {
			l = []api.Form{str("~?"), list(l...)}
		}
		return l
	}
	check(t,
		put("~?", "x", nested(19, str("x"), list())...), fails("~?", api.ErrFull, nested(20, str("x"), list())...), fails("~?", api.ErrFull, nested(20, str("~Q"), list())...), fails("~?", api.ErrType, nested(20, num("1"), list())...), fails("~?", api.ErrType, nested(20, str("x"), num("1"))...), fails("~?", api.ErrForm, nested(19, str("~Q"), list())...), fails("~?", api.ErrNone, nested(20, str("x"))...),
	)
	check(t, put("~@?", "x", append(many(19, str("~@?")), str("x"))...), fails("~@?", api.ErrFull, append(many(20, str("~@?")), str("x"))...), put(strings.Repeat("~@?", 30), strings.Repeat("x", 30), many(30, str("x"))...))
}
