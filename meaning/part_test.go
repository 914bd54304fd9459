package meaning

import (
	"testing"

	"commonform/api"
	"commonform/heap"
	"commonform/lib"
)

// withParts returns a world with functions that begin runs: (NEST f) calls f as a part of the run and returns its values, or the fault %FAULT with what it was; (SWALLOW f) returns NIL however it ends; (OTHER) runs a tree of its own.
func withParts(t *testing.T) tester {
	t.Helper()
	w := newTester(t, api.MaxWords)
	w.want_(w.Register("NEST", 1, 1, func(l []heap.Word) lib.Answer {
		end, _ := Apply(w.World, l[0], nil, 10000)
		switch end.Kind {
		case lib.EndValues:
			return lib.Answer{Values: end.Values}
		case lib.EndFault:
			return lib.Answer{Kind: lib.AnswerFault, Fault: end.Fault}
		}
		return lib.Answer{Kind: lib.AnswerLimit, Code: end.Code}
	}))
	w.want_(w.Register("SWALLOW", 1, 1, func(l []heap.Word) lib.Answer {
		Apply(w.World, l[0], nil, 10000)
		return lib.Answer{Values: []heap.Word{heap.Nil}}
	}))
	other := w.tree("(LIST (BLOCK A (RETURN-FROM A 1)) (NEST (FUNCTION (LAMBDA () 2))) (CATCH 5 (NEST (FUNCTION (LAMBDA () (THROW 5 3))))))")
	w.want_(w.Register("OTHER", 0, 0, func([]heap.Word) lib.Answer {
		end, _ := Run(w.World, other, 10000)
		return lib.Answer{Values: []heap.Word{fixnum(int(end.Code)), fixnum(end.Kind)}}
	}))
	return w
}

// P21.1: exits do not lead out of a run that is a part of another one; inside of it they are as always.
func TestParts(t *testing.T) {
	for text, want := range map[string]string{
		"(NEST (FUNCTION (LAMBDA () (VALUES 1 2))))": "1 2", "(NEST (FUNCTION (LAMBDA () (CAR 1))))": "!TYPE-ERROR 1 list", "(LET ((X 1)) (NEST (FUNCTION (LAMBDA () (SETQ X 2)))) X)": "2", "(NEST (FUNCTION (LAMBDA () (BLOCK A (RETURN-FROM A 1)))))": "1", "(NEST (FUNCTION (LAMBDA () (CATCH 1 (THROW 1 2)))))": "2", "(CATCH 1 (NEST (FUNCTION (LAMBDA () (CATCH 1 (THROW 1 2))))) 3)": "3", "(NEST (FUNCTION (LAMBDA () (TAGBODY (GO A) A))))": "nil",
		"(BLOCK A (NEST (FUNCTION (LAMBDA () (RETURN-FROM A 1)))))": "limit 230", "(TAGBODY (NEST (FUNCTION (LAMBDA () (GO A)))) A)": "limit 230", "(CATCH 1 (NEST (FUNCTION (LAMBDA () (THROW 1 2)))))": "limit 230", "(NEST (FUNCTION (LAMBDA () (THROW 1 2))))": "limit 230", "(BLOCK A (SWALLOW (FUNCTION (LAMBDA () (RETURN-FROM A 1)))) 2)": "limit 230", "(BLOCK A (NEST (FUNCTION (LAMBDA () (SWALLOW (FUNCTION (LAMBDA () (RETURN-FROM A 1)))) 2))))": "limit 230", "(UNWIND-PROTECT (BLOCK A (NEST (FUNCTION (LAMBDA () (RETURN-FROM A 1))))) (PRINC 1))": "limit 230",
		"(NEST (LET ((F NIL)) (BLOCK A (SETQ F (FUNCTION (LAMBDA () (RETURN-FROM A 1))))) F))": "limit 230", "(NEST (FUNCTION (LAMBDA () (FUNCALL (BLOCK A (FUNCTION (LAMBDA () (RETURN-FROM A 1))))))))": "!CONTROL-ERROR", "(FUNCALL (NEST (FUNCTION (LAMBDA () (BLOCK A (FUNCTION (LAMBDA () (RETURN-FROM A 1))))))))": "!CONTROL-ERROR", "(NEST (FUNCTION (LAMBDA () (BLOCK A (NEST (FUNCTION (LAMBDA () (RETURN-FROM A 1))))))))": "limit 230",
		// the tree of OTHER throws out of a part of its own run, which ends this, and not the run that has called it
		"(OTHER)": "230 3", "(CATCH 1 (OTHER) (THROW 1 5))": "5", "(NEST (FUNCTION (LAMBDA () (OTHER) 7)))": "7", "(BLOCK A (OTHER) (SWALLOW (FUNCTION (LAMBDA () 1))) (RETURN-FROM A 5))": "5",
	} {
		w := withParts(t)
		if got := w.run(text); got != want {
			t.Errorf("%s: %s; want %s", text, got, want)
		}
		if got := w.run("(CATCH 1 (THROW 1 5))"); got != "5" {
			t.Errorf("%s: the next run: %s", text, got)
		}
	}
}

// P21.1: a run of its own within another one has constants, blocks and catches of its own.
func TestInner(t *testing.T) {
	w := newTester(t, 20000)
	inner := w.tree("(THROW 1 2)")
	w.want_(w.Register("INNER", 0, 0, func([]heap.Word) lib.Answer {
		end, steps := Run(w.World, inner, 100)
		return lib.Answer{Values: []heap.Word{fixnum(end.Kind), fixnum(steps)}}
	}))
	if got := w.run("(CATCH 1 (INNER))"); got != "1 3" {
		t.Errorf("a run of its own: %s", got)
	}
	if got := w.run("(CATCH 1 (INNER) (THROW 1 5))"); got != "5" {
		t.Errorf("behind a run of its own: %s", got)
	}
}

// P1: runs that are parts of one another without end have an end.
func TestDeepParts(t *testing.T) {
	w := withParts(t)
	end, _ := Run(w.World, w.tree("(LABELS ((F () (NEST (FUNCTION F)))) (F))"), api.MaxSteps)
	if w.told(end) != "limit 12" {
		t.Errorf("parts without end: %s", w.told(end))
	}
}

// P1: so have runs of their own.
func TestDeepRuns(t *testing.T) {
	w := newTester(t, api.MaxWords)
	var c api.Core
	deepest := 0
	w.want_(w.Register("DEEPER", 0, 0, func([]heap.Word) lib.Answer {
		end, _ := Run(w.World, c, 100)
		if end.Kind == lib.EndLimit {
			deepest++
		}
		return lib.Answer{}
	}))
	c = w.tree("(DEEPER)")
	end, _ := Run(w.World, c, 100)
	if deepest != 1 || w.told(end) != "" {
		t.Errorf("%d runs without end, %s", deepest, w.told(end))
	}
}
