package macro_test

import (
	"strings"
	"testing"

	"commonform/api"
	"commonform/core"
	"commonform/forms"
	"commonform/lib"
	"commonform/loop"
	"commonform/macro"
	"commonform/meaning"
	"commonform/place"
)

// expanders returns those of places and loops.
func expanders() []macro.Named {
	var l []macro.Named
	for _, name := range strings.Fields("SETF PSETF INCF DECF PUSH PUSHNEW POP ROTATEF SHIFTF") {
		l = append(l, macro.Named{Name: name, Expand: func(f api.Form, fresh int) (api.Form, int, api.Errno) {
			return place.Macro(place.Standard(), f, fresh)
		}})
	}
	return append(l, macro.Named{Name: "LOOP", Expand: loop.Macro})
}

// results runs forms one behind the other, and returns the values of the last one, and what was printed.
func results(t *testing.T, text string) string {
	t.Helper()
	w := newWorld(t)
	table, fresh := macro.Table{Expanders: expanders()}, 0
	shown := ""
	all, ok := forms.Items(read(t, "("+text+")"))
	if !ok {
		t.Fatal(text)
	}
	for _, f := range all {
		if made, next, is, end := macro.Define(w, table, f, fresh); is {
			table, fresh = made, next
		} else if end.Kind != lib.EndValues {
			t.Fatalf("%s: %v", show(f), end)
		}
		made, next, end := macro.All(w, table, f, fresh)
		if end.Kind != lib.EndValues {
			t.Fatalf("%s: %v", show(f), end)
		}
		fresh = next
		tree, e := core.Convert(made, table.Specials)
		if e != api.OK {
			t.Fatalf("%s: %s: %v", show(f), show(made), e)
		}
		run, _ := meaning.Run(w, tree, api.MaxSteps)
		shown = describe(t, w, run)
	}
	return w.Output() + shown
}

func describe(t *testing.T, w *lib.World, end lib.End) string {
	t.Helper()
	words, l := []string{}, end.Values
	if end.Kind == lib.EndFault {
		words, l = append(words, "!", strings.ToLower(end.Fault.Type)), end.Fault.Data
	}
	if end.Kind > lib.EndFault {
		return "end " + end.Code.Error()
	}
	for _, x := range l {
		f, e := w.Show(x)
		if e != api.OK {
			t.Fatal(e)
		}
		f, e = forms.Plain(f)
		if e != api.OK {
			t.Fatal(e)
		}
		words = append(words, show(f))
	}
	return strings.Join(words, " ")
}

// P22.1: what macros mean when their expansions are run.
func TestMeaningOfMacros(t *testing.T) {
	for text, want := range map[string]string{
		"(cond (nil 1) (2) (t 3))": "2", "(cond ((= 1 2) 3))": "nil", "(list (and) (and 1 nil 2) (and 1 2) (or) (or nil 3 4))": "(t nil 2 nil 3)",
		"(defun k (x) (case x (1 'one) ((2 3) 'few) (nil 'never) ((nil) 'none) (otherwise 'many))) (list (k 1) (k 3) (k nil) (k 9))": "(one few none many)",
		"(defun k (x) (typecase x (integer 'i) ((or symbol string) 's))) (list (k 1) (k 'a) (k \"a\") (k 1/2))":                      "(i s s nil)",
		"(list (prog1 1 (princ 2)) (prog2 (princ 1) 5 (princ 3)))":                                                                   "213(1 5)",
		"(let ((a 1) (b 2)) (psetq a b b a) (list a b))":                                                                             "(2 1)",
		"(do ((i 0 (+ i 1)) (l nil (cons i l))) ((= i 3) l))":                                                                        "(2 1 0)", "(do* ((i 0 (+ i 1)) (j i (+ i j))) ((= i 3) (list i j)))": "(3 6)",
		"(dolist (x '(1 2 3) (list x 'end)) (when (= x 2) (go a)) (princ x) a)": "13(nil end)", "(dolist (x '(1 2 3)) (if (= x 2) (return x)))": "2",
		"(dotimes (i 3 i) (princ i))": "0123", "(dotimes (i -1 i))": "0", "(prog ((x 1)) a (setq x (+ x 1)) (if (< x 5) (go a)) (return x))": "5", "(prog* ((x 1) (y x)) (return y))": "1",
		"(multiple-value-bind (a b c) (floor 7 2) (list a b c))": "(3 1 nil)", "(multiple-value-list (values 1 2))": "(1 2)", "(nth-value 1 (floor 7 2))": "1",
		"(let (a b) (list (multiple-value-setq (a b) (floor 7 2)) a b))": "(3 3 1)", "(multiple-value-setq nil (values 1 2))": "1",
		"(destructuring-bind (a (b &optional (c 5)) &rest d) '(1 (2) 3 4) (list a b c d))": "(1 2 5 (3 4))",
		"(defun f (x) (return-from f (list x 1)) 2) (f 0)":                                 "(0 1)", "(defun (setf f) (v) (return-from f v)) (funcall '|(SETF F)| 5)": "5",
		"(defvar *a* 1) (defvar *a* 2) (defun g () *a*) (let ((*a* 3)) (g))": "3", "(defparameter p 1) (defparameter p 2) p": "2", "(declaim (special q)) (setq q 1) (defun h () q) (let ((q 7)) (h))": "7",
		"(defmacro swap (a b) `(psetq ,a ,b ,b ,a)) (let ((x 1) (y 2)) (swap x y) (list x y))":                                   "(2 1)",
		"(defmacro while (test &body body) `(do () ((not ,test)) ,@body)) (let ((i 0)) (while (< i 3) (princ i) (incf i)) i)":    "0123",
		"(defmacro m () 1) (defun f () (m)) (defmacro m () 2) (list (f) (m))":                                                    "(1 2)",
		"(let ((l (list 1 2 3))) (symbol-macrolet ((a (car l)) (b (car (cdr l)))) (setq a 5) (incf b) (rotatef a b) l))":         "(3 5 3)",
		"(let ((x 0)) (macrolet ((twice (f) (list 'progn f f))) (twice (incf x)) x))":                                            "2",
		"(let* ((l (list 1 2)) (v (vector 0 0))) (push 3 (car (list l))) (push 3 (cdr l)) (setf (aref v 1) (pop l)) (list l v))": "((3 2) #(0 1))",
		"(let ((a 1) (b 2) (c 3)) (list (shiftf a b c 4) a b c (progn (rotatef a b c) (list a b c))))":                           "(1 2 3 4 (3 4 2))",
		"(let ((l '(a b))) (pushnew 'a l) (pushnew 'c l) l)":                                                                     "(c a b)",
		"(let (a b) (list (multiple-value-list (setf (values a b) (floor 7 2))) a b))":                                           "((3 1) 3 1)",
		"(let ((i 0) (v (vector 10 20 30))) (incf (aref v (prog1 i (incf i))) (incf i 5)) (list i v))":                           "(6 #(16 20 30))",
		"(let ((a 1) (b 2)) (list (psetf a b b a) a b))":                                                                         "(nil 2 1)",
		"(loop for x in '(1 2 3) for y on '(1 2 3) for i from 5 by 2 collect (list x y i))":                                      "((1 (1 2 3) 5) (2 (2 3) 7) (3 (3) 9))",
		"(loop for i from 1 to 3 sum i)": "6", "(loop for i from 3 downto 1 collect i)": "(3 2 1)", "(loop for i below 3 for x = i then (* x 2) collect x)": "(0 0 0)",
		"(loop for c across #(1 5 3) maximize c)": "5", "(loop for x in '(3 1 2) minimize x into m finally (return m))": "1", "(loop repeat 3 do (princ 1))": "111nil",
		"(loop for x in '(1 2 3 4) if (member x '(2 4)) collect x into e else sum x into o end finally (return (list e o)))": "((2 4) 4)",
		"(loop for x in '(1 2) always (numberp x))": "t", "(loop for x in '(1 a) always (numberp x))": "nil", "(loop for x in '(1 a) never (symbolp x))": "nil", "(loop for x in '(nil 7 8) thereis x)": "7",
		"(loop named a for i from 1 do (loop for j from 1 to i do (if (= j 3) (return-from a (list i j)))))": "(3 3)",
		"(loop for x in '(1 2 3 4) while (< x 3) count t)":                                                   "2", "(loop for x in '(1 2 3 4) by #'(lambda (l) (cdr (cdr l))) append (list x x))": "(1 1 3 3)", "(let ((n 0)) (loop (if (= n 3) (return n)) (incf n)))": "3",
		"(loop with a = 1 with b = (+ a 1) initially (princ a) until (> b 3) do (incf b) finally (princ b))": "14nil",
	} {
		if got := results(t, text); got != want {
			t.Errorf("%s: %s, expected %s", text, got, want)
		}
	}
}
