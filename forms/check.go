package forms

import (
	"unicode/utf8"

	"commonform/api"
)

// Check returns the error of a form.
func Check(f api.Form) api.Errno {
	if e := checkSize(f); e != api.OK {
		return e
	}
	for _, node := range walk(f) {
		if !rightNode(node) {
			return api.ErrForm
		}
	}
	return checkLabels(f)
}

// checkSize leaves the walk as soon as the form is too large, whatever else is in it.
func checkSize(f api.Form) api.Errno {
	nodes := 0
	for depth := range walk(f) {
		nodes++
		if nodes > api.MaxForm || depth > api.MaxDepth {
			return api.ErrSize
		}
	}
	return api.OK
}

// rightNode reports whether a node is as the table of forms says, whatever its Kids are like inside.
func rightNode(f api.Form) bool {
	if !rightWords(f.Kind, f.Text, f.Home) || !rightCount(f.Kind, f.Text, len(f.Kids)) {
		return false
	}
	switch f.Kind {
	case api.FormComplex:
		return rightParts(f.Kids[0].Kind, f.Kids[1].Kind, f.Kids[1].Text)
	case api.FormCons:
		return f.Kids[len(f.Kids)-1].Kind != api.FormCons
	}
	return true
}

func rightWords(kind int, text, home string) bool {
	if !utf8.ValidString(text) || !utf8.ValidString(home) {
		return false
	}
	return (home == "" || kind == api.FormSymbol) && rightText(kind, text)
}

func rightText(kind int, text string) bool {
	switch kind {
	case api.FormSymbol, api.FormString:
		return true
	case api.FormInt:
		return rightInteger(text)
	case api.FormRatio:
		return rightRatio(text)
	case api.FormSingle:
		return len(text) == 8 && onlyOf(text, "0123456789abcdef")
	case api.FormDouble:
		return len(text) == 16 && onlyOf(text, "0123456789abcdef")
	case api.FormChar:
		return utf8.RuneCountInString(text) == 1
	case api.FormBits:
		return onlyOf(text, "01")
	case api.FormArray:
		_, ok := dimensions(text)
		return ok
	case api.FormLabel, api.FormRef:
		_, ok := small(text, maxLabel)
		return ok
	case api.FormComplex, api.FormCons, api.FormVector:
		return text == ""
	}
	return false
}

// rightCount reports whether a node whose Text is right may have so many Kids.
func rightCount(kind int, text string, kids int) bool {
	switch kind {
	case api.FormComplex:
		return kids == 2
	case api.FormCons:
		return kids >= 2
	case api.FormVector:
		return true
	case api.FormArray:
		l, _ := dimensions(text)
		return kids == product(l)
	case api.FormLabel:
		return kids == 1
	}
	return kids == 0
}

// rightParts reports whether two kinds are those of the parts of a complex number; text is that of the imaginary part.
func rightParts(re, im int, text string) bool {
	if re == api.FormSingle || re == api.FormDouble {
		return re == im
	}
	return isRational(re) && isRational(im) && !(im == api.FormInt && text == "0")
}

// checkLabels returns the first error of labels in a form whose nodes are right.
func checkLabels(f api.Form) api.Errno {
	met := map[string]struct{}{}
	e := api.OK
look:
	for _, node := range walk(f) {
		_, there := met[node.Text]
		switch node.Kind {
		case api.FormLabel:
			if there {
				e = api.ErrTwice
				break look
			}
			if kid := node.Kids[0].Kind; kid == api.FormRef || kid == api.FormLabel {
				e = ErrLabel
				break look
			}
			met[node.Text] = struct{}{}
		case api.FormRef:
			if !there {
				e = ErrLabel
				break look
			}
		}
	}
	return e
}
