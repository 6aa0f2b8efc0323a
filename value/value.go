// Package value has the values of tables and queries: their order, and how they are written.
package value

import (
	"cmp"
	"strconv"
	"strings"

	"tribune/api"
)

// Kind is what a value is. The kinds stand in the order of values.
type Kind int

const (
	Null Kind = iota
	Number
	Word
)

// Value is a number, a word or null.
type Value struct {
	Kind   Kind
	Number int64
	Word   string
}

// OfNumber is a number.
func OfNumber(number int64) Value { return Value{Kind: Number, Number: number} }

// OfWord is a word.
func OfWord(word string) Value { return Value{Kind: Word, Word: word} }

// Compare holds two values against each other: null is ahead of numbers, these are ahead of words.
func Compare(a, b Value) int {
	return cmp.Or(cmp.Compare(a.Kind, b.Kind), cmp.Compare(a.Number, b.Number), strings.Compare(a.Word, b.Word))
}

// Text is the value as it is written.
func (v Value) Text() string {
	switch v.Kind {
	case Number:
		return strconv.FormatInt(v.Number, 10)
	case Word:
		return "'" + v.Word + "'"
	}
	return "null"
}

// Longer digits are out of bounds in any case, and need not be worked out.
const maxDigits = 13

// Read reads a value; false, if it is not written as one or is out of its bounds.
func Read(text string) (Value, bool) {
	switch {
	case text == "null":
		return Value{}, true
	case strings.HasPrefix(text, "'"):
		return readWord(text)
	}
	return readNumber(text)
}

func readWord(text string) (Value, bool) {
	inner, closed := strings.CutSuffix(text[1:], "'")
	if !closed || !IsWord(inner) {
		return Value{}, false
	}
	// A row outlives the text that it was read from.
	return OfWord(strings.Clone(inner)), true
}

func readNumber(text string) (Value, bool) {
	digits, below := strings.CutPrefix(text, "-")
	if !areDigits(digits) || below && digits == "0" {
		return Value{}, false
	}
	number := int64(0)
	for i := range len(digits) {
		number = 10*number + int64(digits[i]-'0')
	}
	if number > api.MaxNumber {
		return Value{}, false
	}
	if below {
		number = -number
	}
	return OfNumber(number), true
}

// areDigits tells whether these are digits as a number has them: few enough, and no 0 ahead of others.
func areDigits(text string) bool {
	if len(text) == 0 || len(text) > maxDigits || len(text) > 1 && text[0] == '0' {
		return false
	}
	for i := range len(text) {
		if !IsDigit(text[i]) {
			return false
		}
	}
	return true
}

// IsWord tells whether a text can be a word (without the signs around it).
func IsWord(text string) bool {
	if len(text) > api.MaxWord {
		return false
	}
	for i := range len(text) {
		if !IsLetter(text[i]) && !IsDigit(text[i]) {
			return false
		}
	}
	return true
}

// IsLetter tells whether a byte is a letter of names and words.
func IsLetter(b byte) bool { return 'a' <= b && b <= 'z' }

// IsDigit tells whether a byte is a digit.
func IsDigit(b byte) bool { return '0' <= b && b <= '9' }
