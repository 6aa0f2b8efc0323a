package query

import (
	"tribune/token"
	"tribune/value"
)

func (r *reader) cond() *Node {
	switch r.next() {
	case token.Not:
		r.take()
		return &Node{Kind: Not, Parts: []*Node{r.cond()}}
	case token.Exists:
		return r.exists()
	case token.Open:
		if r.opensCond() {
			return r.pair(r.cond, token.And, token.Or)
		}
	}
	return r.comparison()
}

// opensCond tells whether the "(" that is next belongs to a cond. An expr may begin with one too,
// but never has an "and" or "or" in it, and the cond has one ahead of its ")".
func (r *reader) opensCond() bool {
	level := 0
	for _, t := range r.tokens[r.at:] {
		switch t.Kind {
		case token.Open:
			level++
		case token.Close:
			level--
		case token.And, token.Or:
			return true
		}
		if level == 0 {
			return false
		}
	}
	return false
}

// pair reads two parts in parentheses, with one of the joints between.
func (r *reader) pair(part func() *Node, joints ...token.Kind) *Node {
	r.expect(token.Open)
	left := part()
	joint := r.expect(joints...)
	right := part()
	r.expect(token.Close)
	return &Node{Kind: kinds[joint.Kind], Parts: []*Node{left, right}}
}

func (r *reader) exists() *Node {
	r.expect(token.Exists)
	r.expect(token.Open)
	q := r.query()
	r.expect(token.Close)
	return &Node{Kind: Exists, Query: q}
}

func (r *reader) comparison() *Node {
	left := r.expr()
	if r.accept(token.Is) {
		r.expect(token.Null)
		return &Node{Kind: IsNull, Parts: []*Node{left}}
	}
	sign := r.expect(token.Equal, token.Less, token.Greater)
	right := r.expr()
	return &Node{Kind: kinds[sign.Kind], Parts: []*Node{left, right}}
}

func (r *reader) expr() *Node {
	switch r.next() {
	case token.Name:
		return r.column()
	case token.Now:
		r.take()
		return &Node{Kind: Now}
	case token.Open:
		return r.pair(r.expr, token.Plus, token.Minus, token.Star)
	case token.Count, token.Sum, token.Min, token.Max:
		return r.aggregate()
	}
	return r.constant()
}

func (r *reader) constant() *Node {
	v, _ := value.Read(r.expect(token.Number, token.Word, token.Null).Text)
	return &Node{Kind: Constant, Value: v}
}

func (r *reader) aggregate() *Node {
	n := &Node{Kind: kinds[r.take().Kind]}
	r.expect(token.Open)
	if n.Kind == Count && r.accept(token.Star) {
		n.Kind = CountAll
	} else {
		n.Parts = []*Node{r.expr()}
	}
	r.expect(token.Close)
	return n
}
