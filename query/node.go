// Package query reads tokens as a query or a policy.
package query

import "tribune/value"

// Kind is what a node is.
type Kind int

const (
	None Kind = iota // no node

	Column
	Constant
	Now
	Plus
	Minus
	Times
	CountAll
	Count
	Sum
	Min
	Max

	And
	Or
	Not
	Exists
	Equal
	Less
	Greater
	IsNull
)

// Node is an expr or a cond.
type Node struct {
	Kind   Kind
	Source string      // of Column: what its source is called
	Name   string      // of Column: its name in the source
	Value  value.Value // of Constant
	Parts  []*Node     // the exprs or conds in it, from left to right
	Query  *Query      // of Exists
}

// Source is a table, and what it is called in the query.
type Source struct {
	Table  string
	Called string
}

// Query is a query; Where and Having are nil, if there is none.
type Query struct {
	Exprs   []*Node
	Sources []Source
	Where   *Node
	Group   []*Node
	Having  *Node
}

// Form is whether a text is a query or a policy.
type Form int

const (
	Plain Form = iota
	Within
	Ever
)

// Statement is what a whole text says.
type Statement struct {
	Form  Form
	Span  int64 // of Within: its number
	Query *Query
}

// Depth is the greatest depth of anything in a query.
func (q *Query) Depth() int {
	// The columns of a group by are no exprs; and they would be no deeper than the exprs are.
	return 1 + max(deepest(q.Exprs), q.Where.depth(), q.Having.depth())
}

func (n *Node) depth() int {
	switch {
	case n == nil:
		return 0
	case n.Query != nil:
		return 1 + n.Query.Depth()
	}
	return 1 + deepest(n.Parts)
}

func deepest(nodes []*Node) int {
	depth := 0
	for _, n := range nodes {
		depth = max(depth, n.depth())
	}
	return depth
}
