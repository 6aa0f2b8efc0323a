// Package query reads tokens as a query or a policy.
package query

import (
	"slices"

	"tribune/value"
)

// Kind is what a node is.
type Kind int

const (
	None Kind = iota // no node

	Column
	Constant
	Now
	Plus
	Minus
	Times
	CountAll
	Count
	Sum
	Min
	Max

	And
	Or
	Not
	Exists
	Equal
	Less
	Greater
	IsNull
)

// Node is an expr or a cond.
type Node struct {
	Kind   Kind
	Source string      // of Column: what its source is called
	Name   string      // of Column: its name in the source
	Value  value.Value // of Constant
	Parts  []*Node     // the exprs or conds in it, from left to right
	Query  *Query      // of Exists
	Place  Place       // of Column: where it is found, told by what checks the names
}

// Place is where a column is found.
type Place struct {
	Source int        // counted among the sources of its query and of those around, the outermost first
	Column int        // counted among the columns of the source
	Kind   value.Kind // of its values that are not null
}

// Source is a table, and what it is called in the query.
type Source struct {
	Table  string
	Called string
}

// Query is a query; Where and Having are nil, if there is none.
type Query struct {
	Exprs   []*Node
	Sources []Source
	Where   *Node
	Group   []*Node
	Having  *Node
}

// Form is whether a text is a query or a policy.
type Form int

const (
	Plain Form = iota
	Within
	Ever
)

// Statement is what a whole text says.
type Statement struct {
	Form  Form
	Span  int64 // of Within: its number
	Query *Query
}

// Nodes are the exprs and conds that stand in a query itself, not within others.
func (q *Query) Nodes() []*Node {
	nodes := slices.Concat(q.Exprs, q.Group)
	if q.Where != nil {
		nodes = append(nodes, q.Where)
	}
	if q.Having != nil {
		nodes = append(nodes, q.Having)
	}
	return nodes
}

// IsGrouped tells whether the rows of a query are of groups.
func (q *Query) IsGrouped() bool {
	hasAggregate := func(n *Node) bool { return n.Has((*Node).IsAggregate) }
	return len(q.Group) > 0 || q.Having != nil || slices.ContainsFunc(q.Exprs, hasAggregate)
}

// IsAggregate tells whether a node is of a group's combinations.
func (n *Node) IsAggregate() bool { return CountAll <= n.Kind && n.Kind <= Max }

// Has tells whether something holds for a node or for one within it. A query in exists is a matter of its own.
func (n *Node) Has(holds func(*Node) bool) bool {
	isWithin := func(part *Node) bool { return part.Has(holds) }
	return n != nil && (holds(n) || slices.ContainsFunc(n.Parts, isWithin))
}

// Depth is the greatest depth of anything in a query.
func (q *Query) Depth() int {
	// The columns of a group by are no exprs, but no deeper than the exprs are.
	return 1 + deepest(q.Nodes())
}

func (n *Node) depth() int {
	if n.Query != nil {
		return 1 + n.Query.Depth()
	}
	return 1 + deepest(n.Parts)
}

func deepest(nodes []*Node) int {
	depth := 0
	for _, n := range nodes {
		depth = max(depth, n.depth())
	}
	return depth
}
