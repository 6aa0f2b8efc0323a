// Package check tells whether a query's names, shape and types are right.
package check

import (
	"tribune/api"
	"tribune/query"
	"tribune/table"
)

// Query tells what is wrong with a query over tables, and lays into its columns where they are found.
func Query(q *query.Query, tables []*table.Table) api.Errno {
	names := namer{tables: tables}
	if !names.query(q) {
		return api.ErrName
	}
	if !isShaped(q) {
		return api.ErrShape
	}
	if !isTyped(q) {
		return api.ErrType
	}
	return api.OK
}
