package check

import (
	"slices"

	"tribune/api"
	"tribune/query"
	"tribune/table"
)

// namer goes through a query, with its sources and those of the queries around at hand.
type namer struct {
	tables  []*table.Table
	sources []source // the outermost first
}

type source struct {
	called string
	table  *table.Table
}

func (n *namer) query(q *query.Query) bool {
	if len(q.Sources) > api.MaxSources {
		return false
	}
	around := len(n.sources)
	for _, s := range q.Sources {
		if !n.add(s) {
			return false
		}
	}
	for _, node := range q.Nodes() {
		if !n.node(node) {
			return false
		}
	}
	n.sources = n.sources[:around]
	return true
}

func (n *namer) add(s query.Source) bool {
	t := table.Find(n.tables, s.Table)
	if t == nil || n.find(s.Called) >= 0 {
		return false
	}
	n.sources = append(n.sources, source{called: s.Called, table: t})
	return true
}

// find is the place of the source that is called so, or below 0.
func (n *namer) find(called string) int {
	return slices.IndexFunc(n.sources, func(s source) bool { return s.called == called })
}

func (n *namer) node(node *query.Node) bool {
	switch node.Kind {
	case query.Column:
		return n.column(node)
	case query.Exists:
		return n.query(node.Query)
	}
	for _, part := range node.Parts {
		if !n.node(part) {
			return false
		}
	}
	return true
}

func (n *namer) column(node *query.Node) bool {
	from := n.find(node.Source)
	if from < 0 {
		return false
	}
	columns := n.sources[from].table.Columns
	at := slices.IndexFunc(columns, func(c table.Column) bool { return c.Name == node.Name })
	if at < 0 {
		return false
	}
	node.Place = query.Place{Source: from, Column: at, Kind: columns[at].Kind}
	return true
}
