package format

import (
	"strings"
	"testing"

	"commonform/api"
)

// P13.1: ~(.
func TestChangeCase(t *testing.T) {
	check(t,
		put("~(ABC~)|~:(a bc~)|~@(a bc~)|~:@(a bc~)", "abc|A Bc|A bc|A BC"), put("~(A~AB~)C", "axbC", str("X")), put("~:(~(ABC DEF~)~)", "Abc Def"), put("~(~:(abc def~)~)", "abc def"), put("~@(~)", ""), put("~@(1 a~)", "1 A"), put("A~(B~)~:(C~)", "AbC"), put("ab~(C~4TD~)", "abc d"), put("~(A~%B~)~&c", "a\nb\nc"), put("~(A\n~)~&c", "a\nc"), put("ab~(~&C~)", "ab\nc"), put("~:(~R~)", "Forty-Five", num("45")),
		// ~^ ends what the bracket stands in, with what was put out so far
		put("~(A~^B~)C", "a"), put("x~{~(A~A~^B~)C~}y", "xa1bCa2y", list(nums("1 2")...)), put("~:(~(aB~^~) cd~)e", "Ab"), put("~@(~?c~)", "Abc", str("ab~^x"), list()),
	)
}

// P13.1: ~[ by a number.
func TestChoose(t *testing.T) {
	great := num("1" + strings.Repeat("0", 30))
	check(t,
		put("~[a~;b~]", "a", num("0")), put("~[a~;b~]", "b", num("1")), put("~[a~;b~]|", "|", num("2")), put("~[a~;b~]|", "|", num("-1")), put("~[a~;b~]|", "|", great), put("~[a~:;b~]", "a", num("0")), put("~[a~:;b~]", "b", num("1")), put("~[a~:;b~]", "b", num("7")), put("~[a~:;b~]", "b", num("-1")), put("~[a~:;b~]", "b", great), put("~[a~;b~:;c~]", "b", num("1")), put("~[a~;b~:;c~]", "c", num("-5")), put("~[~]|", "|", num("0")), put("~[a~]", "a", num("0")), put("~[~A~;~A~A~]", "xy", num("1"), str("x"), str("y")),
		put("~0[a~;b~]~A", "a1", num("1")), put("~1[a~;b~]", "b"), put("~5[a~;b~]|", "|"), put("~5[a~:;b~]|", "b|"), put("~#[none~;one~;two~:;many~]", "none"), put("~#[none~;one~;two~:;many~]", "two", nums("1 2")...), put("~#[none~;one~;two~:;many~]", "many", nums("1 2 3")...), put("~v[a~;b~]", "b", num("1")), put("~v[a~;b~]", "a", list(), num("0")),
		fails("~[a~]", api.ErrNone), fails("~[a~]", api.ErrType, list()), fails("~[a~]", api.ErrType, single("00000000")), fails("~[a~]", api.ErrType, num(strings.Repeat("1", 20001))), fails("~-1[a~]", api.ErrRange), fails("~1001[a~:;b~]", api.ErrRange), fails("~'x[a~]", api.ErrType), fails("~v[a~]", api.ErrNone, list()),
	)
}

// P13.1: ~[ by NIL.
func TestChooseByNil(t *testing.T) {
	none, one := list(), num("1")
	check(t,
		put("~:[no~;yes~]", "no", none), put("~:[no~;yes~]", "yes", one), put("~:[no~;yes~]", "yes", sym("NIL")), put("~:[~A~;~A~]~A", "12", none, one, num("2")), put("~:[~A~;~A~]~A", "12", str("x"), one, num("2")), put("~@[<~A>~]~A", "2", none, num("2")), put("~@[<~A>~]~A", "<1>2", one, num("2")), put("~@[<>~]~A", "<>1", one), put("~@[~]~A", "1", one),
		put("~0:[no~;yes~]", "yes"), put("~0@[~A~]", "1", one), put("~v:[no~;yes~]", "no", none, none),
		fails("~:[~;~]", api.ErrNone), fails("~@[~]", api.ErrNone), fails("~1001:[~;~]", api.ErrRange, one), fails("~'x@[~]", api.ErrType, one),
		// ~^ in ~[ ends what it stands in
		put("a~0[b~^c~]d", "ab"), put("a~@[b~*~^c~]d", "ab", one), put("~{~A~1[~;~^~]-~}", "1-2", list(nums("1 2")...)), put("a~:[b~^c~;~]d", "ab", none),
	)
}

// P13.1: ~{ over a list.
func TestIterate(t *testing.T) {
	l, none := list(nums("1 2 3")...), list()
	check(t,
		put("~{~A~^, ~}", "1, 2, 3", l), put("~{~A~}~A", "1234", l, num("4")), put("~{~A~}|", "|", none), put("~{none~:}", "none", none), put("~{~A~:}", "123", l), put("~2{~A~}", "12", l), put("~0{~A~}|", "|", l), put("~0{x~:}|", "|", none), put("~1{x~:}|", "x|", none), put("~9{~A~}", "123", l), put("~v{~A~}", "1", num("1"), l), put("~v{~A~}", "123", none, l), put("~{~A~A~}", "1234", list(nums("1 2 3 4")...)), put("~{~A~:*~A~}", "112233", l), put("~{~A~2*~}", "1", l), put("~{~3@*~}|", "|", l), put("~{~A~^~A~^-~}", "12-3", l), put("~{<~{~A~}>~}", "<1><23>", list(list(num("1")), list(nums("2 3")...))), put("~{~#[~;~A~;~A and ~A~:;~@{~A~#[~;, and ~:;, ~]~}~]~}", "1, 2, and 3", l), put("ab~{~4T~A~}", "ab  1 2 3", l), put("~{~A~0^~A~}x", "1x", l),
		put("~{~}", "1;2;3;", str("~D;"), l), put("~{~}|", "|", str("~D;"), none), put("~{~:}|", "x|", str("x"), none), put("~2{~}", "12", str("~A"), l), put("~{~}", "1, 2, 3", str("~A~^, "), l), put("~@{~}", "1;2;", append([]api.Form{str("~D;")}, nums("1 2")...)...), put("~v{~}", "1", num("1"), str("~A"), l), put("~{~\n~}", "", none),
		fails("~{~A~}", api.ErrNone), fails("~{~}", api.ErrNone), fails("~{~}", api.ErrNone, str("x")), fails("~{~A~}", api.ErrType, num("1")), fails("~{~A~}", api.ErrType, node(api.FormCons, "", num("1"), num("2"))), fails("~{~A~}", api.ErrType, node(api.FormVector, "")), fails("~{~A~}", api.ErrType, node(api.FormLabel, "0", l)), fails("~{~}", api.ErrType, num("1"), l), fails("~{~}", api.ErrType, str("~Q"), num("1")), fails("~{~}", api.ErrForm, str("~Q"), l), fails("~{~}", api.ErrForm, str(strings.Repeat("x", 4001)), none), fails("~{~A~A~}", api.ErrNone, l), fails("~{~:*~}", api.ErrNone, l), fails("~A~{~2:*~A~}", api.ErrNone, num("1"), l), fails("~{~4@*~}", api.ErrNone, l), fails("~1001{~}", api.ErrRange, l), fails("~-1{~}", api.ErrRange, l), fails("~'x{~}", api.ErrType, l), fails("~0{~}", api.ErrForm, str("~Q"), none), fails("~{~A~:}", api.ErrNone, none),
	)
}

// P13.1: ~{ over the arguments that are left.
func TestIterateArguments(t *testing.T) {
	l := nums("1 2 3")
	check(t,
		put("~@{~A~}", "123", l...), put("~@{~A~^-~}", "1-2-3", l...), put("~2@{~A~}~A", "123", l...), put("~A~@{<~A>~}", "1<2><3>", l...), put("~@{~}|", "|", str("x")), put("~@{x~:}", "x"), put("~@{~A~0^~}~A", "12", l...),
	)
	check(t,
		put("~A~1@{~@*~A~}~A", "123", l...), put("~A~1@{~A~:*~}~A", "122", l...), put("~1@{~A~A~:*~}~A", "122", l...), put("~A~1@{~2@*~}|~#[none~]", "1|none", l...), put("~1@{~#[~;~;~;three~]~}", "three", l...), put("~2@{~}~A", "123", append([]api.Form{str("~A")}, l...)...),
		fails("~A~@{~:*~}", api.ErrNone, l...), fails("~A~@{~3@*~}", api.ErrNone, l...), fails("~@{~A~A~}", api.ErrNone, l...), fails("~@{~}", api.ErrNone), fails("~@{~}", api.ErrType, num("1")),
	)
}

// P13.1: ~{ with colon, over lists of arguments.
func TestIterateLists(t *testing.T) {
	pair := func(a, b string) api.Form { return list(num(a), num(b)) }
	l, none := list(pair("1", "2"), pair("3", "4")), list()
	check(t,
		put("~:{~A-~A ~}", "1-2 3-4 ", l), put("~:{~A~}", "13", l), put("~:{~A~^:~A~^;~}", "1:23:4", l), put("~:{~A~:^, ~}", "1, 3", l), put("~1:{~A~}", "1", l), put("~0:{~A~}|", "|", l), put("~:{x~}", "xxx", list(none, none, none)), put("~:{x~:}", "x", none), put("~:{~#[none~]~:}", "none", none), put("~0:{x~:}|", "|", none),
	)
	check(t,
		put("~:@{~A-~A ~}", "1-2 3-4 ", pair("1", "2"), pair("3", "4")), put("~1:@{~A-~A ~}~A", "1-2 5", pair("1", "2"), num("5")), put("~:@{x~:}", "x"), put("~:@{~A~:^,~}", "1,3", pair("1", "2"), pair("3", "4")), put("~:{~}", "1;3;", str("~D;"), l), put("~:@{~}", "1;3;", str("~D;"), pair("1", "2"), pair("3", "4")), put("~:{~A~0:^~}x", "1x", l), put("~:{~A~0^z~}x", "13x", l), put("~:{~A~1:^y~}x", "1y3yx", l), put("~:{~(X~A~:^,~)~}", "x1,x3", l), put("~:{~0[~A~:^,~]~}", "1,3", l), put("~:{~:^x~}", "", list(none)), put("~:{x~:^~:}", "x", none), put("~:{~{~A~^,~}~:^;~}", "1,2;3,4", list(list(pair("1", "2")), list(pair("3", "4")))), put("~:@{~A~0:^~}~A", "1(3 4)", pair("1", "2"), pair("3", "4")), put("~:{~A~v:^~}", "12", list(pair("1", "1"), pair("2", "0"), pair("3", "1"))),
		fails("~:{~A~}", api.ErrType, list(num("1"))), fails("~:{~A~}", api.ErrType, num("1")), fails("~:{~A~}", api.ErrType, list(pair("1", "2"), num("1"))), put("~1:{~A~}", "1", list(pair("1", "2"), num("1"))), put("~:{~A~0:^~}", "1", list(pair("1", "2"), num("1"))), fails("~:@{~A~}", api.ErrType, num("1")), fails("~:{~A~A~A~}", api.ErrNone, l), fails("~:{~A~:}", api.ErrNone, none), fails("~:{~}", api.ErrForm, str("~:^"), l), fails("~:{~:*~}", api.ErrNone, l),
	)
}

// P13.1: ~<.
func TestJustify(t *testing.T) {
	check(t,
		put("~10<a~;bc~;d~>", "a   bc   d"), put("~10:<a~;b~>", "    a    b"), put("~10@<a~;b~>", "a    b    "), put("~10:@<a~;b~>", "   a   b  "), put("~6<a~>|~6@<a~>|~6:@<a~>", "     a|a     |   a  "), put("~10,,,'.<a~;b~>", "a........b"), put("~1,5<abc~;d~>", "abc  d"), put("~,,2<a~;b~>", "a  b"), put("~,,2<a~>", "  a"), put("~<a~;b~>", "ab"), put("~<~>|~0,1,0<a~>", "|a"), put("~3<~>|", "   |"), put("~v,,,v<a~;b~>", "a...b", num("5"), char(".")), put("~5<~A~;~A~>~A", "1   23", nums("1 2 3")...),
		// ~^ leaves out its part, and those behind it
		put("~5<a~;~^b~;c~>|", "    a|"), put("~5<~^a~;b~>|", "|"), put("~5<a~;b~^~;c~>|", "    a|"), put("~5<~A~;~^~A~;~^~A~>", "1   2", nums("1 2")...), put("~{~3<~A~;~^~A~>~}|", "1 23 4|", list(nums("1 2 3 4")...)), put("~5<a~;~(b~^~)~>|", "    a|"), put("~5<a~;~0[b~^~]~>|", "    a|"), put("~5<a~;~0^b~>c", "    ac"),
		// the parts begin in the column ahead of ~<
		put("ab~8<~4Tx~;~6Ty~>|", "ab  x    y|"), put("ab~<x~%~;~&y~>", "abx\n\ny"), put("~<a~&~;~&b~>", "a\nb"), put("ab~6<~&x~>", "ab    \nx"), put("~6<a~;b~>~8Tx", "a    b  x"), put("~<a\n~>~&x", "a\nx"), put("~(~5<A~;B~>~)", "a   b"), put("~9<~3<a~;b~>~;c~>", "a b     c"),
		fails("~1001<a~>", api.ErrRange), fails("~,0<a~>", api.ErrRange), fails("~,1001<a~>", api.ErrRange), fails("~,,1001<a~>", api.ErrRange), fails("~,,,1<a~>", api.ErrType), fails("~-1<~A~>", api.ErrRange), fails("~<~A~>", api.ErrNone),
		put("~<"+strings.Repeat("~;", 99)+"~>", ""), fails("~<"+strings.Repeat("~;", 100)+"~>", api.ErrFull), put("~<"+strings.Repeat("~;", 99)+"~^~;~>", ""), fails("~<"+strings.Repeat("~;", 100)+"~;~A~>", api.ErrFull), fails("~<"+strings.Repeat("~;", 100)+"~A~>", api.ErrNone),
		put("~<~A~>", strings.Repeat("x", 4000), str(strings.Repeat("x", 4000))), fails("~<~A~>", api.ErrFull, str(strings.Repeat("x", 4001))), put("~<~A~^~>|", "|", str(strings.Repeat("x", 4001))), fails("~<a~;~A~;~A~>", api.ErrFull, str(strings.Repeat("x", 4001))),
	)
}

// P13.1: ~^ by its parameters.
func TestEnd(t *testing.T) {
	check(t,
		put("a~^b", "a"), put("a~^b~A", "ab1", num("1")), put("a~0^b", "a"), put("a~1^b", "ab"), put("a~-1^b", "ab"), put("a~3,3^b", "a"), put("a~3,4^b", "ab"), put("a~1,2,3^b", "a"), put("a~1,1,1^b", "a"), put("a~2,1,3^b", "ab"), put("a~1,3,2^b", "ab"), put("a~-5,-4,999999999^b", "a"), put("a~,^b", "a"), put("a~,1^b", "ab"), put("a~,,^b", "a"), put("a~,,-1^b", "ab"), put("a~#^b", "a"), put("a~#,1^b~A", "a", num("1")), put("a~v^b", "ab", num("1000000000")), put("a~v^b", "ab", num("-1000000000")), fails("a~v^b", api.ErrRange, num("-1000000001")), put("a~v^b", "a", list()), put("a~v^b", "a", num("0"), num("1")), put("a~v,v^b", "a", nums("7 7")...), put("a~v,v,v^b", "ab", nums("7 7 6")...), put("a~@^b", "a"),
		fails("a~'x^b", api.ErrType), fails("a~v^b", api.ErrNone), fails("a~v^b", api.ErrRange, num("1000000001")), fails("a~v^b", api.ErrType, str("")), fails("~1,'x^", api.ErrType), fails("~0,0,v^", api.ErrNone),
	)
}
