// Package touch has the order in which rows of tables are told.
package touch

import (
	"cmp"
	"slices"
	"strings"

	"tribune/api"
)

// Compare holds two rows against each other, by their tables' names and then by their numbers.
func Compare(a, b api.Touch) int {
	return cmp.Or(strings.Compare(a.Table, b.Table), cmp.Compare(a.Row, b.Row))
}

// Union is the rows of lists, each once and in order.
func Union(lists ...[]api.Touch) []api.Touch {
	all := slices.Concat(lists...)
	slices.SortFunc(all, Compare)
	return slices.Compact(all)
}
