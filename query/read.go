package query

import (
	"slices"

	"tribune/token"
	"tribune/value"
)

// kinds has the node of each token that alone tells what the node is.
var kinds = [...]Kind{
	token.Plus: Plus, token.Minus: Minus, token.Star: Times,
	token.Equal: Equal, token.Less: Less, token.Greater: Greater,
	token.And: And, token.Or: Or,
	token.Count: Count, token.Sum: Sum, token.Min: Min, token.Max: Max,
}

// reader is tokens on their way into a statement.
type reader struct {
	tokens []token.Token
	at     int
	failed bool
}

// Read reads tokens; false, if they are neither a query nor a policy.
func Read(tokens []token.Token) (Statement, bool) {
	r := reader{tokens: tokens}
	s := r.statement()
	r.expect(token.End)
	if r.failed {
		return Statement{}, false
	}
	return s, true
}

// next is the kind of the next token.
func (r *reader) next() token.Kind {
	if r.at == len(r.tokens) {
		return token.End
	}
	return r.tokens[r.at].Kind
}

func (r *reader) take() token.Token {
	if r.at == len(r.tokens) {
		return token.Token{}
	}
	r.at++
	return r.tokens[r.at-1]
}

// fail leaves no token to read, so that whatever is still being read ends at once.
func (r *reader) fail() {
	r.failed = true
	r.at = len(r.tokens)
}

// expect takes the next token, which must be of one of these kinds.
func (r *reader) expect(these ...token.Kind) token.Token {
	if !slices.Contains(these, r.next()) {
		r.fail()
	}
	return r.take()
}

// accept takes the next token, if it is of the kind.
func (r *reader) accept(kind token.Kind) bool {
	if r.next() != kind {
		return false
	}
	r.take()
	return true
}

// list reads parts with a comma between.
func list[T any](r *reader, part func() T) []T {
	parts := []T{part()}
	for r.accept(token.Comma) {
		parts = append(parts, part())
	}
	return parts
}

func (r *reader) statement() Statement {
	var s Statement
	switch {
	case r.accept(token.Within):
		s.Form = Within
		s.Span = r.number()
	case r.accept(token.Ever):
		s.Form = Ever
	}
	s.Query = r.query()
	return s
}

func (r *reader) number() int64 {
	v, _ := value.Read(r.expect(token.Number).Text)
	return v.Number
}

func (r *reader) query() *Query {
	q := &Query{}
	r.expect(token.Select)
	q.Exprs = list(r, r.expr)
	r.expect(token.From)
	q.Sources = list(r, r.source)
	if r.accept(token.Where) {
		q.Where = r.cond()
	}
	if r.accept(token.Group) {
		r.expect(token.By)
		q.Group = list(r, r.column)
	}
	if r.accept(token.Having) {
		q.Having = r.cond()
	}
	return q
}

func (r *reader) source() Source {
	table := r.expect(token.Name)
	called := r.expect(token.Name)
	return Source{Table: table.Text, Called: called.Text}
}

func (r *reader) column() *Node {
	source := r.expect(token.Name)
	r.expect(token.Dot)
	name := r.expect(token.Name)
	return &Node{Kind: Column, Source: source.Text, Name: name.Text}
}
