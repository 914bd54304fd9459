package reader

import (
	"commonform/api"
	"commonform/forms"
)

// Feature reports whether features fulfil an expression.
func Feature(f api.Form, features []string) (bool, api.Errno) {
	set := map[string]bool{}
	for _, name := range features {
		set[name] = true
	}
	return fulfilled(f, func(name string) bool { return set[name] })
}

// fulfilled looks at all of an expression, so that each error in it is found.
func fulfilled(f api.Form, has func(name string) bool) (bool, api.Errno) {
	if f.Kind == api.FormSymbol && f.Home == keyword && len(f.Kids) == 0 {
		return has(f.Text), api.OK
	}
	items, ok := forms.Items(f)
	if !ok || len(items) == 0 {
		return false, api.ErrForm
	}
	operator, operands := items[0], items[1:]
	held := 0
	for _, operand := range operands {
		is, e := fulfilled(operand, has)
		if e != api.OK {
			return false, e
		}
		if is {
			held++
		}
	}
	switch {
	case forms.Is(operator, keyword, "NOT") && len(operands) == 1:
		return held == 0, api.OK
	case forms.Is(operator, keyword, "AND"):
		return held == len(operands), api.OK
	case forms.Is(operator, keyword, "OR"):
		return held > 0, api.OK
	}
	return false, api.ErrForm
}
