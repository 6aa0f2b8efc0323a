// Package journal keeps the log: who was answered, when, and from which rows.
package journal

import (
	"slices"
	"strings"

	"tribune/api"
	"tribune/table"
	"tribune/value"
)

const (
	logName   = "log"
	touchName = "touch"
)

// timeAt is the place of the column time in a row of log.
const timeAt = 2

// Journal is the log, with its entries as rows of the tables that policies read. It is never changed:
// its methods make new ones, so that an entry can be tried. The zero Journal has no entries.
type Journal struct {
	log   []table.Row // a row for each entry that is kept, with the entry's number
	touch []table.Row // a row for each row that such an entry touched, with the entry's number too
	count int         // how many entries were written, kept or not
}

// HasTable tells whether a table of the log is called so.
func HasTable(name string) bool { return name == logName || name == touchName }

// Tables is the log's tables, with the entries that are kept.
func (j Journal) Tables() []*table.Table {
	log := table.New(logName, []table.Column{
		{Name: "id", Kind: value.Number}, {Name: "user", Kind: value.Word}, {Name: "time", Kind: value.Number},
	})
	log.Rows = j.log
	touch := table.New(touchName, []table.Column{
		{Name: "id", Kind: value.Number}, {Name: "tab", Kind: value.Word}, {Name: "row", Kind: value.Number},
	})
	touch.Rows = j.touch
	return []*table.Table{log, touch}
}

// Count is how many entries were written; the last one has this number.
func (j Journal) Count() int { return j.count }

// Kept is how many of them are kept.
func (j Journal) Kept() int { return len(j.log) }

// With is the log with one more entry, which touches each of the rows once.
func (j Journal) With(user string, time int64, touches []api.Touch) Journal {
	number := j.count + 1
	id := value.OfNumber(int64(number))
	row := func(values ...value.Value) table.Row { return table.Row{Number: number, Values: values} }
	entry := row(id, value.OfWord(strings.Clone(user)), value.OfNumber(time))
	var touched []table.Row
	for _, t := range touches {
		touched = append(touched, row(id, value.OfWord(t.Table), value.OfNumber(int64(t.Row))))
	}
	return Journal{
		log:   slices.Concat(j.log, []table.Row{entry}),
		touch: slices.Concat(j.touch, touched),
		count: number,
	}
}

// LastUntil is the number of the last entry, of those that are kept, that is not later than a time, or 0.
// As times never go back, the entries behind it are just those that are later.
func (j Journal) LastUntil(time int64) int {
	last := 0
	for _, r := range j.log {
		if r.Values[timeAt].Number <= time {
			last = r.Number
		}
	}
	return last
}

// Behind is the log that keeps only entries with greater numbers than this.
func (j Journal) Behind(entry int) Journal {
	return Journal{log: behind(j.log, entry), touch: behind(j.touch, entry), count: j.count}
}

func behind(rows []table.Row, entry int) []table.Row {
	start := slices.IndexFunc(rows, func(r table.Row) bool { return r.Number > entry })
	if start < 0 {
		return nil
	}
	// New memory: what stands ahead of the piece would be kept with it.
	return slices.Clone(rows[start:])
}
