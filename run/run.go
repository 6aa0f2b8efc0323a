// Package run works out queries that are checked.
package run

import (
	"cmp"
	"slices"

	"tribune/api"
	"tribune/query"
	"tribune/table"
	"tribune/touch"
	"tribune/value"
)

// Rows works out a query over tables, at a time; false, if a number is out of its bounds or the work too much.
func Rows(q *query.Query, tables []*table.Table, now int64) ([]api.Row, bool) {
	w := worker{tables: tables, now: now}
	answer := w.answer(q)
	if w.failed {
		return nil, false
	}
	for i := range answer {
		answer[i].from = w.from(q.Sources, answer[i].group)
	}
	slices.SortFunc(answer, compareRows)
	return written(answer), true
}

// Finds tells whether a query has a row; or a number is out of its bounds, or the work too much.
func Finds(q *query.Query, tables []*table.Table, now int64) bool {
	w := worker{tables: tables, now: now}
	return len(w.answer(q)) > 0 || w.failed
}

// row is a row of an answer, on its way to be told.
type row struct {
	values []value.Value
	group  []combination
	from   []api.Touch
}

func compareRows(a, b row) int {
	return cmp.Or(
		slices.CompareFunc(a.values, b.values, value.Compare),
		slices.CompareFunc(a.from, b.from, touch.Compare),
	)
}

// from is the rows of sources that are in combinations.
func (w *worker) from(sources []query.Source, combinations []combination) []api.Touch {
	var from []api.Touch
	for i, s := range sources {
		t := table.Find(w.tables, s.Table)
		for _, c := range combinations {
			// The table's own name: that of the source is a piece of the query's text, which would be kept with it.
			from = append(from, api.Touch{Table: t.Name, Row: c[i].Number})
		}
	}
	return touch.Union(from)
}

func written(answer []row) []api.Row {
	var rows []api.Row
	for _, r := range answer {
		texts := make([]string, len(r.values))
		for i, v := range r.values {
			texts[i] = v.Text()
		}
		rows = append(rows, api.Row{Values: texts, From: r.from})
	}
	return rows
}
