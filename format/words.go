package format

import (
	"strconv"
	"strings"

	"commonform/api"
	"commonform/integer"
	"commonform/number"
)

const (
	groupDigits  = 3
	greatestName = 24 // the digits of the first number that has no name
	maxRoman     = 3999
	maxOldRoman  = 4999
)

// integerOf returns the integer of a form, if it is one.
func integerOf(x api.Form) (integer.Int, bool) {
	if x.Kind != api.FormInt || number.Check(x) != api.OK {
		return integer.Int{}, false
	}
	n, e := integer.Parse(x.Text, 10)
	return n, e == api.OK
}

// Cardinal returns an integer in English words.
func Cardinal(x api.Form) (string, api.Errno) {
	if _, ok := integerOf(x); !ok {
		return "", api.ErrType
	}
	digits, negative := strings.CutPrefix(x.Text, "-")
	if len(digits) > greatestName {
		return "", api.ErrRange
	}
	if digits == "0" {
		return "zero", api.OK
	}
	words := groupsInWords(digits)
	if negative {
		words = "minus " + words
	}
	return words, api.OK
}

// groupsInWords returns digits of a number above 0 in words.
func groupsInWords(digits string) string {
	names := [...]string{"", " thousand", " million", " billion", " trillion", " quadrillion", " quintillion", " sextillion"}
	var words []string
	for place := (len(digits) - 1) / groupDigits; place >= 0; place-- {
		end := len(digits) - place*groupDigits
		n, _ := strconv.Atoi(digits[max(end-groupDigits, 0):end])
		if n > 0 {
			words = append(words, groupInWords(n)+names[place])
		}
	}
	return strings.Join(words, " ")
}

// groupInWords returns a number from 1 to 999 in words.
func groupInWords(n int) string {
	small := [...]string{"", "one", "two", "three", "four", "five", "six", "seven", "eight", "nine", "ten", "eleven", "twelve", "thirteen", "fourteen", "fifteen", "sixteen", "seventeen", "eighteen", "nineteen"}
	tens := [...]string{"", "", "twenty", "thirty", "forty", "fifty", "sixty", "seventy", "eighty", "ninety"}
	var words []string
	if n >= 100 {
		words = append(words, small[n/100]+" hundred")
		n %= 100
	}
	switch {
	case n == 0:
	case n < len(small):
		words = append(words, small[n])
	case n%10 == 0:
		words = append(words, tens[n/10])
	default:
		words = append(words, tens[n/10]+"-"+small[n%10])
	}
	return strings.Join(words, " ")
}

// Ordinal returns an integer as an English ordinal number.
func Ordinal(x api.Form) (string, api.Errno) {
	words, e := Cardinal(x)
	if e != api.OK {
		return "", e
	}
	last := strings.LastIndexAny(words, " -") + 1
	return words[:last] + ordinalWord(words[last:]), api.OK
}

func ordinalWord(word string) string {
	switch word {
	case "one":
		return "first"
	case "two":
		return "second"
	case "three":
		return "third"
	case "five":
		return "fifth"
	case "eight":
		return "eighth"
	case "nine":
		return "ninth"
	case "twelve":
		return "twelfth"
	}
	if front, ok := strings.CutSuffix(word, "y"); ok {
		return front + "ieth"
	}
	return word + "th"
}

// Roman returns an integer in Roman numerals.
func Roman(x api.Form, old bool) (string, api.Errno) {
	whole, ok := integerOf(x)
	if !ok {
		return "", api.ErrType
	}
	greatest := int64(maxRoman)
	if old {
		greatest = maxOldRoman
	}
	n, ok := whole.Int64()
	if !ok || n < 1 || n > greatest {
		return "", api.ErrRange
	}
	values := [...]int64{1000, 900, 500, 400, 100, 90, 50, 40, 10, 9, 5, 4, 1}
	numerals := [...]string{"M", "CM", "D", "CD", "C", "XC", "L", "XL", "X", "IX", "V", "IV", "I"}
	var text strings.Builder
	for i, value := range values {
		if old && len(numerals[i]) > 1 {
			continue
		}
		for ; n >= value; n -= value {
			text.WriteString(numerals[i])
		}
	}
	return text.String(), api.OK
}
