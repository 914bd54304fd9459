package lambda_test

import (
	"testing"

	"commonform/api"
	"commonform/lambda"
)

// P18.1, P18.4: arguments and what they are bound to.
func TestMatch(t *testing.T) {
	for text, want := range map[string]string{
		"() ()": "", "(A B) (1 2)": "a=1 b=2", "(A &OPTIONAL (B 1 C) &REST D) (5)": "a=5 b=nil! c=nil d=nil", "(A &OPTIONAL (B 1 C) &REST D) (5 6 7)": "a=5 b=6 c=t d=(7)", "(A &OPTIONAL (B 1 C) &REST D) (5 NIL)": "a=5 b=nil c=t d=nil", "(&REST A) (1 2)": "a=(1 2)", "(&AUX A (B 1)) ()": "a=nil! b=nil!",
		"(&KEY X) (:X 3)": "x=3", "(&KEY X) ()": "x=nil!", "(&KEY (X 1 Y)) (:X NIL)": "x=nil y=t", "(&KEY (X 1 Y)) ()": "x=nil! y=nil", "(&KEY X) (:X 1 :X 2)": "x=1", "(&KEY X Y) (:Y 1 :X 2)": "x=2 y=1", "(&KEY ((K X))) (K 1)": "x=1", "(A &OPTIONAL B &REST C &KEY X) (1 2 :X 3)": "a=1 b=2 c=(:x 3) x=3", "(&OPTIONAL A &KEY X) (1)": "a=1 x=nil!", "(&KEY X) (:X :X)": "x=:x",
		"(&KEY X &ALLOW-OTHER-KEYS) (:Y 1 :X 2)": "x=2", "(&KEY X) (:Y 1 :ALLOW-OTHER-KEYS T)": "x=nil!", "(&KEY) (:ALLOW-OTHER-KEYS NIL)": "", "(&KEY X) (:ALLOW-OTHER-KEYS 1 :ALLOW-OTHER-KEYS NIL :Y 2)": "x=nil!", "(&KEY ALLOW-OTHER-KEYS) (:ALLOW-OTHER-KEYS 5 :Y 2)": "allow-other-keys=5", "(&KEY &ALLOW-OTHER-KEYS) (1 2)": "",
		"((A B) . C) ((1 2) 3)": "a=1 b=2 c=(3)", "(A . B) (1)": "a=1 b=nil", "(&WHOLE A B &ENVIRONMENT C) (1)": "a=(1) b=1 c=nil!", "((A . B)) ((1 2 . 3))": "a=1 b=(2 . 3)", "((A . B)) ((1 . 2))": "a=1 b=2", "((&OPTIONAL A &REST B)) ((1 . 2))": "a=1 b=2", "((&OPTIONAL A B . C)) ((1 . 2))": "a=1 b=nil! c=2", "(NIL A) (NIL 1)": "a=1",
		"(&OPTIONAL ((A B) 1 C)) ()": "a=nil! b=nil! c=nil", "(&OPTIONAL ((A &OPTIONAL (B 1 C)) 1 D)) ()": "a=nil! b=nil! c=nil! d=nil", "(&OPTIONAL ((A B) 1 C)) ((1 2))": "a=1 b=2 c=t", "(&KEY ((:K (A)) NIL B)) (:K (5))": "a=5 b=t", "((&REST A &KEY B)) ((:B 1 . 2))": "a=(:b 1 . 2) b=1", "(((A) B)) (((1) 2))": "a=1 b=2",
	} {
		l, args := divide(t, text)
		b, e := lambda.Match(parse(t, l, true), args)
		if e != api.OK || bound(b) != want {
			t.Errorf("Match %s = %s, %v; want %s", text, bound(b), e, want)
		}
	}
}

// divide returns the text of a lambda list, and the arguments behind it.
func divide(t *testing.T, text string) (string, []api.Form) {
	t.Helper()
	f := read(t, "("+text+")")
	args := f.Kids[1]
	return show(f.Kids[0]), args.Kids[:max(len(args.Kids)-1, 0)]
}

// P18.1: the errors of arguments, in their order.
func TestMatchErrors(t *testing.T) {
	for text, want := range map[string]api.Errno{
		"() (1)": api.ErrSize, "(A) ()": api.ErrSize, "(A) (1 2)": api.ErrSize, "(A &OPTIONAL B) (1 2 3)": api.ErrSize, "(A &REST B) ()": api.ErrSize, "(A &KEY B) ()": api.ErrSize,
		"(&KEY X) (:X)": api.ErrForm, "(&KEY X) (:Y 3)": api.ErrNone, "(&KEY X) (:Y)": api.ErrForm, "(&KEY X) (1 2)": api.ErrNone, "(&KEY X) (X 2)": api.ErrNone, "(&KEY X) (#:X 2)": api.ErrNone, "(&KEY X &ALLOW-OTHER-KEYS) (:X)": api.ErrForm, "(&KEY X) (:X 1 :ALLOW-OTHER-KEYS NIL :ALLOW-OTHER-KEYS T :Y 2)": api.ErrNone, "(&REST A &KEY X) (1)": api.ErrForm, "(&KEY X) (:X 1 :ALLOW-OTHER-KEYS)": api.ErrForm,
		"((A)) (1)": api.ErrForm, "((A)) (\"A\")": api.ErrForm, "((A)) (NIL)": api.ErrSize, "((A)) ((1 2))": api.ErrSize, "((A)) ((1 . 2))": api.ErrForm, "((A)) ((1 2 . 3))": api.ErrSize, "((A &OPTIONAL B)) ((1 . 2))": api.ErrForm, "(NIL) (1)": api.ErrForm, "(NIL) ((1))": api.ErrSize, "((&KEY A)) ((:A))": api.ErrForm, "((&KEY A)) ((:B 1))": api.ErrNone, "((&KEY A)) ((:A 1 . 2))": api.ErrForm, "((&REST A &KEY B)) ((:B . 2))": api.ErrForm,
		"((A) B) (1)": api.ErrSize, "((A) &KEY B) (1 :B)": api.ErrForm, "((A) &KEY B) (1 :C 1)": api.ErrNone, "((A) (&KEY B)) ((1 2) (:B))": api.ErrSize, "((&KEY B) (A)) ((:B) (1 2))": api.ErrForm, "((&KEY B) (A)) ((:C 1) 5)": api.ErrNone, "(&OPTIONAL ((A) 1 B)) (5)": api.ErrForm, "((A (B))) ((1 2))": api.ErrForm,
	} {
		l, args := divide(t, text)
		if b, e := lambda.Match(parse(t, l, true), args); e != want || len(b) > 0 {
			t.Errorf("Match %s = %s, %v; want %v", text, bound(b), e, want)
		}
	}
}
