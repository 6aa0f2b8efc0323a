package check

import (
	"slices"

	"tribune/query"
	"tribune/value"
)

// isTyped tells whether numbers and words are nowhere mixed up in a query.
func isTyped(q *query.Query) bool {
	for _, n := range q.Nodes() {
		if _, ok := typeOf(n); !ok {
			return false
		}
	}
	return true
}

// typeOf tells of what an expr is (null goes with both); false, if something within it is mixed up.
// Of what a cond is nobody asks.
func typeOf(n *query.Node) (value.Kind, bool) {
	var parts []value.Kind
	for _, part := range n.Parts {
		kind, ok := typeOf(part)
		if !ok {
			return value.Null, false
		}
		parts = append(parts, kind)
	}
	switch n.Kind {
	case query.Column:
		return n.Place.Kind, true
	case query.Constant:
		return n.Value.Kind, true
	case query.Min, query.Max:
		return parts[0], true
	case query.Plus, query.Minus, query.Times, query.Sum:
		return value.Number, !slices.Contains(parts, value.Word)
	case query.Equal, query.Less, query.Greater:
		return value.Null, !slices.Contains(parts, value.Word) || !slices.Contains(parts, value.Number)
	case query.Exists:
		return value.Null, isTyped(n.Query)
	}
	return value.Number, true
}
