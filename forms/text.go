package forms

import (
	"strconv"
	"strings"
)

const (
	maxLabel     = 999
	maxDimension = 2000
	maxDivided   = 18 // digits of numbers whose common divisors are looked for
	manyElements = 1 << 40
)

// onlyOf reports whether all bytes of a text are some of the given ones.
func onlyOf(text, bytes string) bool {
	for i := range len(text) {
		if strings.IndexByte(bytes, text[i]) < 0 {
			return false
		}
	}
	return true
}

// rightDigits reports whether a text is that of an integer from 0 on.
func rightDigits(text string) bool {
	return text != "" && onlyOf(text, "0123456789") && (text[0] != '0' || text == "0")
}

func rightInteger(text string) bool {
	digits, negative := strings.CutPrefix(text, "-")
	return rightDigits(digits) && !(negative && digits == "0")
}

func rightRatio(text string) bool {
	n, d, ok := strings.Cut(text, "/")
	if !ok || !rightInteger(n) || n == "0" || !rightDigits(d) || d == "0" || d == "1" {
		return false
	}
	n = strings.TrimPrefix(n, "-")
	if len(n) > maxDivided || len(d) > maxDivided {
		return true
	}
	return divisor(n, d) == 1
}

// divisor returns the greatest common divisor of two numbers that are short enough for an int64.
func divisor(n, d string) int64 {
	a, _ := strconv.ParseInt(n, 10, 64)
	b, _ := strconv.ParseInt(d, 10, 64)
	for b != 0 {
		a, b = b, a%b
	}
	return a
}

// small returns the number of a text without leading zeros, if it is at most most.
func small(text string, most int) (int, bool) {
	if !rightDigits(text) || len(text) > 4 {
		return 0, false
	}
	n, _ := strconv.Atoi(text)
	return n, n <= most
}

// dimensions returns the numbers of the Text of an array, if it is right.
func dimensions(text string) ([]int, bool) {
	if text == "" {
		return nil, true
	}
	spaces := strings.Count(text, " ")
	if spaces == 0 || spaces >= MaxRank {
		return nil, false
	}
	var l []int
	for part := range strings.SplitSeq(text, " ") {
		n, ok := small(part, maxDimension)
		if !ok {
			return nil, false
		}
		l = append(l, n)
	}
	return l, true
}

// product returns the number of elements of an array; what is beyond all lists is cut there, since seven dimensions may exceed an int.
func product(l []int) int {
	n := 1
	for _, dimension := range l {
		n = min(n*dimension, manyElements)
	}
	return n
}
