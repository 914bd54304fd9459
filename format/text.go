package format

import (
	"strings"

	"commonform/api"
)

const (
	maxNumber = 1000 // of a number, where nothing else is said
	maxTexts  = 100  // that are justified
)

// Grouped returns digits with commas between groups of them.
func Grouped(digits string, comma string, interval int) (string, api.Errno) {
	if interval < 1 || interval > maxNumber {
		return "", api.ErrArg
	}
	sign, digits := cutSign(digits)
	var grouped strings.Builder
	grouped.WriteString(sign)
	for i := range len(digits) {
		if left := len(digits) - i; i > 0 && left%interval == 0 {
			grouped.WriteString(comma)
		}
		grouped.WriteByte(digits[i])
	}
	return grouped.String(), api.OK
}

// cutSign parts a number's text into its sign, if it has one, and what stands behind it.
func cutSign(text string) (sign, rest string) {
	if strings.HasPrefix(text, "-") || strings.HasPrefix(text, "+") {
		return text[:1], text[1:]
	}
	return "", text
}

// Justified returns texts that are spread over a width.
func Justified(texts []string, width, step, least int, pad string, front, back bool) (string, api.Errno) {
	if len(texts) < 1 || len(texts) > maxTexts {
		return "", api.ErrSize
	}
	needed := 0
	for _, text := range texts {
		if len(text) > api.MaxSource {
			return "", api.ErrSize
		}
		needed += len(text)
	}
	if len(pad) != 1 || step < 1 || step > maxNumber {
		return "", api.ErrArg
	}
	if width < 0 || width > maxNumber || least < 0 || least > maxNumber {
		return "", api.ErrRange
	}
	return spread(texts, front, back, func(gaps int) int {
		return widened(width, step, needed+gaps*least) - needed
	}, pad), api.OK
}

// widened returns the least width, enlarged in steps, that is enough for a size.
func widened(width, step, size int) int {
	if size <= width {
		return width
	}
	steps := (size - width + step - 1) / step
	return width + steps*step
}

// spread puts pads into the gaps between, ahead of and behind texts; room tells how many there are for a number of gaps.
func spread(texts []string, front, back bool, room func(gaps int) int, pad string) string {
	gaps := len(texts) - 1
	front = front || gaps == 0 && !back
	if front {
		gaps++
	}
	if back {
		gaps++
	}
	pads := room(gaps)
	each, more := pads/gaps, pads%gaps
	var b strings.Builder
	gap := func() {
		b.WriteString(strings.Repeat(pad, each))
		if more > 0 {
			more--
			b.WriteString(pad)
		}
	}
	for i, text := range texts {
		if i > 0 || front {
			gap()
		}
		b.WriteString(text)
	}
	if back {
		gap()
	}
	return b.String()
}

// Cased returns a text with letters changed.
func Cased(s string, colon, at bool) (string, api.Errno) {
	if len(s) > api.MaxOutput {
		return "", api.ErrSize
	}
	text := []byte(s)
	begins := true // a word, or for at the text
	for i, c := range text {
		switch {
		case !isLetter(c):
			begins = begins || colon && !isDigit(c)
			continue
		case colon && at, (colon || at) && begins:
			text[i] = greatLetter(c)
		default:
			text[i] = smallLetter(c)
		}
		begins = false
	}
	return string(text), api.OK
}

func isDigit(c byte) bool { return c >= '0' && c <= '9' }

func isLetter(c byte) bool { return c >= 'A' && c <= 'Z' || c >= 'a' && c <= 'z' }

func greatLetter(c byte) byte {
	if c >= 'a' && c <= 'z' {
		return c - 'a' + 'A'
	}
	return c
}

func smallLetter(c byte) byte {
	if c >= 'A' && c <= 'Z' {
		return c - 'A' + 'a'
	}
	return c
}
