package token

import (
	"strings"

	"tribune/value"
)

// scanner is a text on its way into tokens.
type scanner struct {
	text   string
	at     int
	tokens []Token
}

// Scan takes a text apart; false, if a piece of it is no token, or a number, word or name is out of its bounds.
func Scan(text string) ([]Token, bool) {
	s := scanner{text: text}
	for s.skipBlanks(); s.at < len(text); s.skipBlanks() {
		if !s.scanToken() {
			return nil, false
		}
	}
	return s.tokens, true
}

func (s *scanner) skipBlanks() {
	for s.at < len(s.text) && s.text[s.at] == ' ' {
		s.at++
	}
}

func (s *scanner) scanToken() bool {
	first := s.text[s.at]
	switch {
	case value.IsLetter(first):
		end := lettersEnd(s.text, s.at)
		return s.add(lettersKind(s.text[s.at:end]), end)
	case value.IsDigit(first):
		return s.addValue(Number, digitsEnd(s.text, s.at))
	case first == '-' && s.isNumbersMinus():
		return s.addValue(Number, digitsEnd(s.text, s.at+1))
	case first == '\'':
		return s.addValue(Word, wordEnd(s.text, s.at))
	}
	return s.addSign(first)
}

// add takes the text up to end as a token; false, if it is none.
func (s *scanner) add(kind Kind, end int) bool {
	s.tokens = append(s.tokens, Token{Kind: kind, Text: s.text[s.at:end]})
	s.at = end
	return kind != End
}

func (s *scanner) addValue(kind Kind, end int) bool {
	_, ok := value.Read(s.text[s.at:end])
	return s.add(kind, end) && ok
}

func (s *scanner) addSign(sign byte) bool {
	i := strings.IndexByte(signs, sign)
	return i >= 0 && s.add(firstSign+Kind(i), s.at+1)
}

// isNumbersMinus tells whether the "-" that is next belongs to a number, and is no sign between two exprs.
func (s *scanner) isNumbersMinus() bool {
	digit := s.at + 1
	if digit == len(s.text) || !value.IsDigit(s.text[digit]) {
		return false
	}
	switch last := s.lastKind(); last {
	case End, Open, Comma, Equal, Less, Greater, Plus, Minus, Star:
		return true
	default:
		return last >= firstKeyword
	}
}

func (s *scanner) lastKind() Kind {
	if len(s.tokens) == 0 {
		return End
	}
	return s.tokens[len(s.tokens)-1].Kind
}

func lettersEnd(text string, at int) int {
	for at < len(text) && value.IsLetter(text[at]) {
		at++
	}
	return at
}

func digitsEnd(text string, at int) int {
	for at < len(text) && value.IsDigit(text[at]) {
		at++
	}
	return at
}

// wordEnd is behind the second "'", or behind the text if there is none: what is read then is no word.
func wordEnd(text string, at int) int {
	length := strings.IndexByte(text[at+1:], '\'')
	if length < 0 {
		return len(text)
	}
	return at + length + 2
}
