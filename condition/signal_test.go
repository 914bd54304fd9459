package condition_test

import (
	"strings"
	"testing"

	"commonform/api"
	"commonform/condition"
	"commonform/core"
	"commonform/forms"
	"commonform/heap"
	"commonform/lib"
	"commonform/lisp"
	"commonform/macro"
	"commonform/meaning"
	"commonform/place"
)

// objects stands for the layers of classes: an instance is an object with a symbol and one slot.
type objects struct {
	*lib.World
	supers map[heap.Word][]heap.Word
}

// list returns the elements of a list.
func (o objects) list(x heap.Word) []heap.Word {
	var l []heap.Word
	for x != heap.Nil {
		first, _ := o.Heap().Get(x, 0)
		l = append(l, first)
		x, _ = o.Heap().Get(x, 1)
	}
	return l
}

func (o objects) isA(class, other heap.Word) bool {
	if class == other {
		return true
	}
	for _, super := range o.supers[class] {
		if o.isA(super, other) {
			return true
		}
	}
	return false
}

func values(l ...heap.Word) lib.Answer { return lib.Answer{Kind: lib.AnswerValues, Values: l} }

func (o objects) truth(is bool) lib.Answer {
	if !is {
		return values(heap.Nil)
	}
	x, _ := o.Symbol(lisp.Home, "T")
	return values(x)
}

// install registers what the prelude needs of the layers above.
func (o objects) install() {
	o.Register("%DEFCLASS", 3, 3, func(l []heap.Word) lib.Answer {
		o.supers[l[0]] = o.list(l[1])
		return values(l[0])
	})
	o.Register("MAKE-INSTANCE", 1, 1, func(l []heap.Word) lib.Answer {
		x, _ := o.Heap().New(heap.KindInstance, 2)
		o.Heap().Set(x, 0, l[0])
		return values(x)
	})
	o.Register("%SET-SLOT-VALUE", 3, 3, func(l []heap.Word) lib.Answer {
		o.Heap().Set(l[0], 1, l[2])
		return values(l[2])
	})
	o.Register("SLOT-VALUE", 2, 2, func(l []heap.Word) lib.Answer {
		x, _ := o.Heap().Get(l[0], 1)
		return values(x)
	})
	o.Register("%ISA", 2, 2, func(l []heap.Word) lib.Answer {
		class, _ := o.Heap().Get(l[0], 0)
		return o.truth(o.isA(class, l[1]))
	})
	o.Register("%UNHANDLED", 1, 1, func(l []heap.Word) lib.Answer {
		class, _ := o.Heap().Get(l[0], 0)
		data, _ := o.Heap().Get(l[0], 1)
		fault, _ := o.Symbol(lisp.Home, "%FAULT")
		o.SetFunction(fault, heap.Unbound)
		_, name, _ := o.Name(class)
		return lib.Answer{Kind: lib.AnswerFault, Fault: lib.Fault{Type: name, Data: o.list(data)}}
	})
}

// session runs forms in a world with the prelude.
type session struct {
	objects
	t     *testing.T
	table macro.Table
	fresh int
}

func newSession(t *testing.T) *session {
	t.Helper()
	w, e := lib.New(api.MaxWords, api.MaxWords)
	if e != api.OK {
		t.Fatal(e)
	}
	s := &session{objects: objects{World: w, supers: map[heap.Word][]heap.Word{}}, t: t}
	s.install()
	for _, name := range strings.Fields("HANDLER-BIND RESTART-BIND HANDLER-CASE RESTART-CASE IGNORE-ERRORS WITH-SIMPLE-RESTART DEFINE-CONDITION ASSERT CHECK-TYPE") {
		s.table.Expanders = append(s.table.Expanders, macro.Named{Name: name, Expand: condition.Macro})
	}
	for _, name := range []string{"SETF", "PUSH", "INCF"} {
		s.table.Expanders = append(s.table.Expanders, macro.Named{Name: name, Expand: func(f api.Form, fresh int) (api.Form, int, api.Errno) {
			return place.Macro(place.Standard(), f, fresh)
		}})
	}
	s.run(condition.Prelude())
	return s
}

// run runs forms, and tells how the last one ends.
func (s *session) run(text string) string {
	s.t.Helper()
	all, _ := forms.Items(read(s.t, "("+text+")"))
	shown := ""
	for _, f := range all {
		made, next, end := macro.All(s.World, s.table, f, s.fresh)
		if end.Kind != lib.EndValues {
			s.t.Fatalf("%s: %v", show(f), end)
		}
		s.fresh = next
		tree, e := core.Convert(made, nil)
		if e != api.OK {
			s.t.Fatalf("%s: %v", show(made), e)
		}
		run, _ := meaning.Run(s.World, tree, api.MaxSteps)
		shown = s.describe(run)
	}
	return shown
}

func (s *session) describe(end lib.End) string {
	words, l := []string{}, end.Values
	if end.Kind == lib.EndFault {
		words, l = append(words, "!", strings.ToLower(end.Fault.Type)), end.Fault.Data
	}
	if end.Kind > lib.EndFault {
		return "end " + end.Code.Error()
	}
	for _, x := range l {
		f, _ := s.Show(x)
		words = append(words, show(f))
	}
	return strings.Join(words, " ")
}

// P25.3: which handlers are called, in which order, and how conditions that nobody handles end.
func TestSignalling(t *testing.T) {
	for text, want := range map[string]string{
		"(signal 'error 1)": "nil", "(signal 'warning)": "nil", "(error 'simple-error 1 2)": "! simple-error 1 2", "(error (make-instance 'error))": "! error",
		"(defclass mine (error) ()) (error 'mine 5)": "! mine 5",
		"(handler-bind ((error #'(lambda (c) (princ 1))) (warning #'(lambda (c) (princ 2))) (error #'(lambda (c) (princ 3)))) (handler-bind ((condition #'(lambda (c) (princ 4)))) (signal 'simple-error)))": "413nil",
		"(handler-bind ((error #'(lambda (c) (princ 1)))) (error 'type-error 7))":                                                             "1! type-error 7",
		"(handler-bind ((error #'(lambda (c) (princ 1)))) (handler-bind ((error #'(lambda (c) (princ 2) (signal 'error)))) (signal 'error)))": "211nil",
		"(handler-bind ((error #'(lambda (c) (princ 1) (signal 'error)))) (signal 'error))":                                                   "1nil",
		"(handler-case (error 'type-error 1 2) (error (c) (condition-data c)))":                                                               "(1 2)",
		"(handler-case (progn (signal 'error) 5) (error nil 6))":                                                                              "6", "(handler-case (values 1 2) (error nil 6))": "1 2",
		"(handler-case (signal 'warning) (error nil 6))":                                                  "nil",
		"(handler-case (error 'type-error) (arithmetic-error nil 1) (error nil 2) (type-error nil 3))":    "2",
		"(handler-case (unwind-protect (error 'error) (princ 1)) (error nil (princ 2) 3))":                "123",
		"(handler-case (handler-case (error 'error) (warning nil 1)) (error nil 2))":                      "2",
		"(handler-case (handler-case (error 'error) (error nil (error 'type-error))) (type-error nil 5))": "5",
		"(handler-case (car 1) (type-error (c) (condition-data c)))":                                      "(1 list)",
		"(handler-case (/ 1 0) (arithmetic-error nil 'zero))":                                             "zero",
		"(handler-case (nowhere) (undefined-function (c) (condition-data c)))":                            "(nowhere)",
		"(handler-case nothing (cell-error (c) (condition-data c)))":                                      "(nothing)",
		"(car 1)": "! type-error 1 list",
		"(handler-bind ((error #'(lambda (c) (princ 1)))) (unwind-protect (car 1) (princ 2)))":     "12! type-error 1 list",
		"(multiple-value-list (ignore-errors (values 1 2)))":                                       "(1 2)",
		"(multiple-value-bind (a b) (ignore-errors (error 'error 5)) (list a (condition-data b)))": "(nil (5))",
		"(warn 'warning 5)": "nil",
		"(handler-bind ((warning #'(lambda (c) (princ (condition-data c))))) (warn 'simple-warning 5))": "(5)nil",
		"(define-condition own nil nil) (handler-case (signal 'own 3) (own (c) (condition-data c)))":    "(3)",
		"(define-condition own (error) nil) (error 'own)":                                               "! own",
		"(assert (= 1 2))": "! simple-error",
		"(assert (= 1 1))": "nil", "(check-type 5 integer)": "nil",
		"(check-type 'a integer)": "! type-error",
		"(let ((l nil)) (handler-bind ((error #'(lambda (c) (push (condition-data c) l)))) (signal 'error 1) (signal 'error 2)) l)":               "((2) (1))",
		"(block a (handler-bind ((error #'(lambda (c) (return-from a 5)))) (error 'error)))":                                                      "5",
		"(handler-case (signal 'error) (error nil 1)) (signal 'error)":                                                                            "nil",
		"(ignore-errors (error 'error)) (list (symbol-value '%handlers%) (symbol-value '%restarts%))":                                             "(nil nil)",
		"(handler-case (handler-bind ((error #'(lambda (c) (error 'warning 9)))) (error 'error)) (warning (c) (condition-data c)) (error nil 0))": "(9)",
	} {
		s := newSession(t)
		end := s.run(text)
		if got := s.Output() + end; got != want {
			t.Errorf("%s: %s, expected %s", text, got, want)
		}
	}
}

// P25.4: which restart is called, and what a RESTART-CASE returns.
func TestRestarts(t *testing.T) {
	for text, want := range map[string]string{
		"(restart-case (invoke-restart 'a 1 2) (a (x y) (values x y)))": "1 2", "(restart-case 5 (a nil 6))": "5", "(restart-case (values 1 2))": "1 2",
		"(restart-case (restart-case (invoke-restart 'a) (a nil 1)) (a nil 2))":                                                                        "1",
		"(restart-case (restart-case (invoke-restart 'b) (a nil 1)) (b nil 2))":                                                                        "2",
		"(restart-case (invoke-restart 'a) (a nil 1) (a nil 2))":                                                                                       "1",
		"(restart-bind ((a #'(lambda (x) (princ x) 7))) (list (invoke-restart 'a 5)))":                                                                 "5(7)",
		"(restart-bind ((a #'(lambda () 1))) (restart-bind ((a #'(lambda () 2)) (b #'(lambda () 3))) (list (invoke-restart 'a) (invoke-restart 'b))))": "(2 3)",
		"(restart-case (unwind-protect (invoke-restart 'a) (princ 1)) (a nil (princ 2) 3))":                                                            "123",
		"(handler-bind ((error #'(lambda (c) (invoke-restart 'use 5)))) (restart-case (error 'error) (use (x) (list x))))":                             "(5)",
		"(handler-bind ((error #'(lambda (c) (continue)))) (list (cerror 'error 1) 2))":                                                                "(nil 2)",
		"(cerror 'error 1)": "! error 1", "(continue)": "nil", "(invoke-restart 'none)": "! control-error none",
		"(handler-bind ((warning #'(lambda (c) (muffle-warning)))) (list (warn 'warning) 1))": "(nil 1)",
		"(muffle-warning)": "! control-error muffle-warning",
		"(restart-case (car (find-restart 'a)) (a nil 1))": "a",
		"(find-restart 'a)": "nil",
		"(restart-case (invoke-restart (find-restart 'a) 9) (a (x) x))":                                        "9",
		"(restart-case (length (compute-restarts)) (a nil 1) (b nil 2))":                                       "2",
		"(restart-case 1 (a nil 2)) (compute-restarts)":                                                        "nil",
		"(restart-case (invoke-restart 'a) (a nil 2)) (compute-restarts)":                                      "nil",
		"(multiple-value-list (with-simple-restart (a \"text\") (invoke-restart 'a)))":                         "(nil t)",
		"(with-simple-restart (a) 1 2)":                                                                        "2",
		"(restart-case (invoke-restart 'a) (a (&optional (x 4)) x))":                                           "4",
		"(handler-case (restart-case (invoke-restart 'a 1) (a nil 2)) (program-error nil 'odd))":               "odd",
		"(let ((n 0)) (restart-case (progn (incf n) (restart-case (invoke-restart 'a) (b nil 1))) (a nil n)))": "1",
	} {
		s := newSession(t)
		end := s.run(text)
		if got := s.Output() + end; got != want {
			t.Errorf("%s: %s, expected %s", text, got, want)
		}
	}
}
