package format

import (
	"strings"
	"testing"

	"commonform/api"
)

// P13.1: what is a control string, and what is none.
func TestCheck(t *testing.T) {
	right := []string{
		"", "plain", "\xff", "~A", "~a", "~:@A", "~@:A", "~10A", "~+10A", "~-10A", "~10,2,3,'xA", "~,,,A", "~v,V,#,vA", "~'~A", "~',,',A", "~''A", "~999999999A", "~-999999999A", "~007A",
		"~S~D~B~O~X~R~C~F~$~P~%~|~~~&~T~*~?~^", "~1,2,3,4D", "~1,2,3,4,5R", "~1,2,3,4,5F", "~1,2,3,4$", "~1%~1|~1~~1&~1,2T~1*", "~1,2,3^", "~\n x", "~:\n", "~@\n", "~:@\n",
		"~:@C~:@P~:@?~:@%~:@F~:@$", "~(a~)", "~:@(a~:@)", "~[~]", "~1[a~;b~:;c~]", "~[a~@;b~]", "~[~:;~]", "~:[a~;b~]", "~@[a~]", "~{~}", "~1:@{~:}", "~<~>", "~1,2,3,'x:@<a~;b~;c~>", "~@T", "~:*", "~@*",
		"~:{~:^~}", "~:{~(~:^~)~[~:^~;~]~}", "~{~:{~:^~}~}", "~:@{~1,2,3:^~}", "~<~:{~:^~}~>", "~<~^~;~^~>", "~^", "~{~^~}", "~:{~^~}", "~[~<~;~>~;~]",
		strings.Repeat("~(", 20) + strings.Repeat("~)", 20), strings.Repeat("~{", 10) + strings.Repeat("~<", 10) + strings.Repeat("~>", 10) + strings.Repeat("~}", 10), strings.Repeat("~(~)", 900), strings.Repeat("x", 4000),
	}
	wrong := []string{
		"~", "a~", "~:", "~@", "~1", "~1,", "~'", "~'x", "~v", "~#", "~::A", "~@@A", "~:@:A", "~Q", "~é", "~-A", "~+A", "~--1A", "~+-1A", "~1234567890A", "~-1234567890A", "~0000000001A", "~##A", "~v1A", "~1vA", "~ A", "~1 A", "~:1A", "~A~", "~\r", "~W", "~E", "~G", "~/x/", "~_", "~I",
		"~1,2,3,4,5A", "~,,,,S", "~1,2,3,4,5D", "~,,,,,R", "~1,2,3,4,5,6F", "~,,,,$", "~1C", "~,C", "~1P", "~1,2%", "~,|", "~,~", "~,&", "~1\n", "~1,2,3T", "~1,2*", "~1?", "~1,2,3,4^", "~1(~)", "~(~1)", "~1,2[~]", "~[~1]", "~[~1;~]", "~1,2{~}", "~{~1}", "~1,2,3,4,5<~>", "~<~1>", "~<~,;~>",
		"~(", "~[", "~{", "~<", "~)", "~]", "~}", "~>", "~;", "~:;", "~(~]", "~(~;~)", "~{~;~}", "~(~[~)~]", "~[~(~;~)~]", "~[~;", "~<~;", "~<~(~>~)", "~{~{~}", "~(~)~)", "a~]",
		"~:@[a~;b~]", "~@:[a~]", "~:[a~]", "~:[~]", "~:[a~;b~;c~]", "~@[a~;b~]", "~@[~;~]", "~:[a~:;b~]", "~@[~:;~]", "~[a~:;b~;c~]", "~[a~:;b~:;c~]", "~<a~:;b~>", "~<a~:;b~;c~>",
		"~:T", "~:@T", "~1,2:T", "~:@*", "~@:*", "~1:@*",
		"~:^", "~1:^", "~{~:^~}", "~@{~:^~}", "~<~:^~>", "~:<~:^~>", "~:{~{~:^~}~}", "~:{~<~:^~>~}", "~:{~@{~:^~}~}", "~(~:^~)", "~[~:^~]", "~:{~}~:^", "~:@(~:^~)", "~:[~:^~;~]",
		strings.Repeat("~(", 21) + strings.Repeat("~)", 21), strings.Repeat("~{", 20) + "~[~]" + strings.Repeat("~}", 20),
	}
	for _, control := range right {
		if e := Check(control); e != api.OK {
			t.Errorf("Check(%.50q) = %v, expected no error", control, e)
		}
	}
	for _, control := range wrong {
		if e := Check(control); e != api.ErrForm {
			t.Errorf("Check(%.50q) = %v, expected ErrForm", control, e)
		}
		if s, e := Format(control, many(2000, api.Form{})); e != api.ErrForm || s != "" {
			t.Errorf("Format(%.50q) = %q, %v, expected ErrForm", control, s, e)
		}
	}
	for _, control := range []string{strings.Repeat("x", 4001), strings.Repeat("~", 4001), "~Q" + strings.Repeat("x", 4000)} {
		if e := Check(control); e != api.ErrSize {
			t.Errorf("Check of %d bytes = %v, expected ErrSize", len(control), e)
		}
	}
}

// P13.1: all directives of letters may be great or small ones.
func TestLetters(t *testing.T) {
	check(t,
		put("~a~A", "11", nums("1 1")...), put("~s", "1", num("1")), put("~d~b~o~x", "510155", nums("5 5 5 5")...), put("~r", "one", num("1")), put("~c", "x", char("x")), put("~f", "1.0", num("1")), put("~p", "s", num("2")), put("~3t.", "   ."),
	)
}
