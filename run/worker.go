package run

import (
	"slices"
	"strings"

	"tribune/api"
	"tribune/query"
	"tribune/table"
	"tribune/truth"
	"tribune/value"
)

// combination is one row of each source of a query.
type combination []table.Row

// worker works out a query and those in its exists.
type worker struct {
	tables []*table.Table
	now    int64
	rows   combination   // of all sources at hand: those of the queries around first
	group  []combination // of which the aggregates at hand are
	work   int           // how many combinations there were so far
	failed bool
}

// answer works out the rows of a query.
func (w *worker) answer(q *query.Query) []row {
	var rows []row
	for _, group := range w.groups(q) {
		if w.failed {
			return nil
		}
		// No exists stands in a having or an expr, so no other query comes between this and the aggregates.
		w.group = group
		top := topOf(group)
		w.lay(top)
		if w.isKept(q.Having) {
			rows = append(rows, row{values: w.values(q.Exprs), group: group})
		}
		w.lift(top)
	}
	return rows
}

// topOf is a combination that stands for its group: outside of aggregates only the group by's columns
// are asked, which are the same in all of them.
func topOf(group []combination) combination {
	if len(group) == 0 {
		return nil
	}
	return group[0]
}

func (w *worker) lay(c combination) { w.rows = append(w.rows, c...) }

func (w *worker) lift(c combination) { w.rows = w.rows[:len(w.rows)-len(c)] }

// isKept tells whether a where or a having is true, or there is none.
func (w *worker) isKept(cond *query.Node) bool {
	return cond == nil || w.cond(cond) == truth.True
}

func (w *worker) values(exprs []*query.Node) []value.Value {
	values := make([]value.Value, len(exprs))
	for i, e := range exprs {
		values[i] = w.expr(e)
	}
	return values
}

// groups is the combinations of a query, put together as they make a row.
func (w *worker) groups(q *query.Query) [][]combination {
	kept := w.kept(q)
	switch {
	case !q.IsGrouped():
		return slices.Collect(slices.Chunk(kept, 1))
	case len(q.Group) == 0:
		return [][]combination{kept}
	}
	return w.grouped(q.Group, kept)
}

// grouped puts combinations together that have the same values in columns.
func (w *worker) grouped(columns []*query.Node, combinations []combination) [][]combination {
	var groups [][]combination
	places := map[string]int{}
	for _, c := range combinations {
		key := w.key(columns, c)
		place, ok := places[key]
		if !ok {
			place = len(groups)
			places[key] = place
			groups = append(groups, nil)
		}
		groups[place] = append(groups[place], c)
	}
	return groups
}

// key is a text that is the same where the values of columns are.
func (w *worker) key(columns []*query.Node, c combination) string {
	w.lay(c)
	defer w.lift(c)
	var key strings.Builder
	for _, v := range w.values(columns) {
		key.WriteString(v.Text())
		key.WriteByte(',')
	}
	return key.String()
}

// kept is the combinations for which the where is true.
func (w *worker) kept(q *query.Query) []combination {
	if w.count(q.Sources) == 0 {
		return nil
	}
	var kept []combination
	around := len(w.rows)
	w.each(q.Sources, func() {
		if w.isKept(q.Where) {
			kept = append(kept, slices.Clone(w.rows[around:]))
		}
	})
	return kept
}

// count is how many combinations there are; they are work, done or not.
func (w *worker) count(sources []query.Source) int {
	count := 1
	for _, s := range sources {
		count *= len(w.rowsOf(s))
	}
	w.work += count
	if w.work > api.MaxWork {
		w.failed = true
	}
	return count
}

// each does something at every combination of sources, laid on the rows at hand, until something fails.
func (w *worker) each(sources []query.Source, do func()) {
	if w.failed {
		return
	}
	if len(sources) == 0 {
		do()
		return
	}
	for _, r := range w.rowsOf(sources[0]) {
		w.rows = append(w.rows, r)
		w.each(sources[1:], do)
		w.rows = w.rows[:len(w.rows)-1]
	}
}

func (w *worker) rowsOf(s query.Source) []table.Row {
	return table.Find(w.tables, s.Table).Rows
}
