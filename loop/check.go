package loop

import (
	"iter"

	"commonform/api"
	"commonform/forms"
)

// walk comes to all clauses: to each ahead of those inside of it.
func walk(l []Clause) iter.Seq[Clause] {
	return func(yield func(Clause) bool) { visit(l, yield) }
}

func visit(l []Clause, yield func(Clause) bool) bool {
	for _, c := range l {
		if !yield(c) || !visit(c.Then, yield) || !visit(c.Else, yield) {
			return false
		}
	}
	return true
}

// Check returns the error of clauses.
func Check(l []Clause) api.Errno {
	n := 0
	for range walk(l) {
		n++
		if n > maxClauses {
			return api.ErrSize
		}
	}
	for c := range walk(l) {
		if !c.isRight() {
			return api.ErrForm
		}
	}
	if !isOrdered(l) {
		return api.ErrOrder
	}
	if !fitTogether(l) {
		return ErrKind
	}
	return api.OK
}

// isRight reports whether a clause is of a kind, and has the parts of this kind.
func (c Clause) isRight() bool {
	for _, f := range c.Forms {
		if forms.Check(f) != api.OK {
			return false
		}
	}
	if !c.hasRightVar() || !c.hasRightForms() {
		return false
	}
	if c.Kind != If && c.Kind != Unless {
		return len(c.Then) == 0 && len(c.Else) == 0
	}
	return len(c.Then) > 0 && areSelectable(c.Then) && areSelectable(c.Else)
}

func areSelectable(l []Clause) bool {
	for _, c := range l {
		if !isSelectable(c.Kind) {
			return false
		}
	}
	return true
}

func (c Clause) hasRightVar() bool {
	switch {
	case c.Kind == Named:
		return c.Var.Kind == api.FormSymbol && forms.Check(c.Var) == api.OK
	case c.Kind == With || isStep(c.Kind):
		return isVariable(c.Var) && forms.Check(c.Var) == api.OK
	case isGathering(c.Kind):
		return forms.Equal(c.Var, forms.Nil()) || isVariable(c.Var) && forms.Check(c.Var) == api.OK
	}
	return forms.Equal(c.Var, api.Form{})
}

func (c Clause) hasRightForms() bool {
	n := len(c.Forms)
	switch c.Kind {
	case Named:
		return n == 0
	case Initially, Finally, Do:
		return n > 0 && areLists(c.Forms)
	case Arithmetic:
		return n == partsOfNumbers && hasRightNumbers(c.Forms)
	case In, On, Equals:
		return n == 1 || n == 2
	case With, Across, Repeat, While, Until, Always, Never, Thereis, Return, If, Unless:
		return n == 1
	}
	return isGathering(c.Kind) && n == 1
}

// hasRightNumbers reports whether the last part tells how the others are meant; a limit that is not reached must be there.
func hasRightNumbers(l []api.Form) bool {
	if l[how].Kind != api.FormInt {
		return false
	}
	switch l[how].Text {
	case "0", "2":
		return true
	case "1", "3":
		return !forms.IsNil(l[limit])
	}
	return false
}

// isStep tells the kinds of FOR.
func isStep(kind int) bool { return kind >= Arithmetic && kind <= Equals }

// isGathering tells the kinds whose variable may be hidden.
func isGathering(kind int) bool { return kind >= Collect && kind <= Minimize }

// isOrdered reports whether clauses stand where they may.
func isOrdered(l []Clause) bool {
	begun := false // there was a clause of the body
	for i, c := range l {
		switch {
		case c.Kind == Named && i > 0:
			return false
		case (c.Kind == With || isStep(c.Kind)) && begun:
			return false
		case c.Kind > Repeat:
			begun = true
		}
	}
	return true
}

// group returns which kinds may share a variable.
func group(kind int) int {
	switch kind {
	case Collect, Append:
		return Collect
	case Sum, Count:
		return Sum
	}
	return Maximize
}

// fitTogether reports whether the clauses with a common variable are of one group, and the result is not that of two sorts of clauses.
func fitTogether(l []Clause) bool {
	groups := map[[2]string]int{}
	isTest, isHidden := false, false
	for c := range walk(l) {
		switch {
		case c.Kind == Always || c.Kind == Never || c.Kind == Thereis:
			isTest = true
		case isGathering(c.Kind):
			name := [2]string{c.Var.Home, c.Var.Text}
			known, there := groups[name]
			if there && known != group(c.Kind) {
				return false
			}
			groups[name] = group(c.Kind)
			isHidden = isHidden || forms.IsNil(c.Var)
		}
	}
	return !isTest || !isHidden
}
