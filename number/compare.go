package number

import "commonform/api"

// Equals reports whether x and y have the same value.
func Equals(x, y api.Form) (bool, api.Errno) {
	a, b, e := decodeTwo(x, y)
	if e != api.OK {
		return false, e
	}
	for i, part := range a.parts {
		if part.value().Cmp(b.parts[i].value()) != 0 {
			return false, api.OK
		}
	}
	return true, api.OK
}

// Eql reports whether x and y are the same number of the same kind.
func Eql(x, y api.Form) (bool, api.Errno) {
	if _, _, e := decodeTwo(x, y); e != api.OK {
		return false, e
	}
	if x.Kind != y.Kind || x.Text != y.Text {
		return false, api.OK
	}
	for i, kid := range x.Kids { // a right number has as many as another one of its kind
		if kid.Kind != y.Kids[i].Kind || kid.Text != y.Kids[i].Text {
			return false, api.OK
		}
	}
	return true, api.OK
}

// Cmp compares two real numbers.
func Cmp(x, y api.Form) (int, api.Errno) {
	a, b, e := decodeReals(x, y)
	if e != api.OK {
		return 0, e
	}
	return a.value().Cmp(b.value()), api.OK
}

// Greatest returns the first one of the greatest real numbers.
func Greatest(l []api.Form) (api.Form, api.Errno) {
	if len(l) == 0 {
		return api.Form{}, api.ErrNone
	}
	var greatest scalar
	for i, x := range l {
		a, e := decodeReal(x)
		if e != api.OK {
			return api.Form{}, e
		}
		if i == 0 || a.value().Cmp(greatest.value()) > 0 {
			greatest = a
		}
	}
	return ofScalar(greatest).encode()
}
