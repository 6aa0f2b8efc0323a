// Package token takes the text of a query or a policy apart into tokens, and writes tokens as a text.
package token

import (
	"strings"

	"tribune/api"
)

// Kind is what a token is.
type Kind int

const (
	End Kind = iota // no token: there is none ahead of the first and none behind the last
	Name
	Number
	Word

	// In the order of signs.
	Open
	Close
	Comma
	Dot
	Equal
	Less
	Greater
	Plus
	Minus
	Star

	// In the order of keywords.
	Select
	From
	Where
	Group
	By
	Having
	And
	Or
	Not
	Is
	Null
	Exists
	Count
	Sum
	Min
	Max
	Now
	Within
	Ever
)

const (
	firstSign    = Open
	firstKeyword = Select
)

const signs = "(),.=<>+-*"

var keywords = [...]string{
	"select", "from", "where", "group", "by", "having", "and", "or", "not", "is",
	"null", "exists", "count", "sum", "min", "max", "now", "within", "ever",
}

// Token is a piece of a text.
type Token struct {
	Kind Kind
	Text string
}

// IsName tells whether a text is a name, and so no keyword.
func IsName(text string) bool {
	return text != "" && lettersEnd(text, 0) == len(text) && lettersKind(text) == Name
}

// lettersKind tells what letters are that stand together: a keyword, a name, or (too many) nothing.
func lettersKind(letters string) Kind {
	for i, keyword := range keywords {
		if letters == keyword {
			return firstKeyword + Kind(i)
		}
	}
	if len(letters) > api.MaxName {
		return End
	}
	return Name
}

// Write writes tokens with the blanks where they belong.
func Write(tokens []Token) string {
	var text strings.Builder
	last := End
	for _, t := range tokens {
		if isBlankBetween(last, t.Kind) {
			text.WriteByte(' ')
		}
		text.WriteString(t.Text)
		last = t.Kind
	}
	return text.String()
}

func isBlankBetween(left, right Kind) bool {
	switch left {
	case End, Open, Dot:
		return false
	case Count, Sum, Min, Max:
		return right != Open
	}
	return right != Close && right != Comma && right != Dot
}
