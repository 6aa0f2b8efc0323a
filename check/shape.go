package check

import (
	"slices"

	"tribune/query"
)

// isShaped tells whether everything in a query stands where it may.
func isShaped(q *query.Query) bool {
	if q.Where.Has((*query.Node).IsAggregate) || q.Where.Has(isMisshapen) || q.Having.Has(isExists) {
		return false
	}
	told := slices.Clone(q.Exprs)
	if q.Having != nil {
		told = append(told, q.Having)
	}
	isGrouped := q.IsGrouped()
	for _, n := range told {
		if n.Has(isNest) || isGrouped && hasStray(q, n) {
			return false
		}
	}
	return true
}

func isExists(n *query.Node) bool { return n.Kind == query.Exists }

// isMisshapen tells whether a node is an exists with a query that is not shaped right.
func isMisshapen(n *query.Node) bool { return isExists(n) && !isShaped(n.Query) }

// isNest tells whether a node is an aggregate with another one in it.
func isNest(n *query.Node) bool {
	hasAggregate := func(part *query.Node) bool { return part.Has((*query.Node).IsAggregate) }
	return n.IsAggregate() && slices.ContainsFunc(n.Parts, hasAggregate)
}

// hasStray tells whether a column has more than one value in a group: it is the query's own,
// outside of all aggregates, and none of the group by's.
func hasStray(q *query.Query, n *query.Node) bool {
	switch {
	case n.IsAggregate():
		return false
	case n.Kind == query.Column:
		return isOwn(q, n) && !isOfGroup(q, n)
	}
	return slices.ContainsFunc(n.Parts, func(part *query.Node) bool { return hasStray(q, part) })
}

func isOwn(q *query.Query, column *query.Node) bool {
	return slices.ContainsFunc(q.Sources, func(s query.Source) bool { return s.Called == column.Source })
}

func isOfGroup(q *query.Query, column *query.Node) bool {
	return slices.ContainsFunc(q.Group, func(c *query.Node) bool { return c.Place == column.Place })
}
