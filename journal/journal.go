// Package journal keeps the log: who was answered, when, and from which rows.
package journal

import (
	"strings"

	"tribune/api"
	"tribune/table"
	"tribune/value"
)

const (
	logName   = "log"
	touchName = "touch"
)

// Journal is the log's two tables.
type Journal struct {
	log   *table.Table // a row for each entry; its number is the entry's
	touch *table.Table // a row for each row that an entry touched
}

// New makes a log without entries.
func New() *Journal {
	return &Journal{
		log: table.New(logName, []table.Column{
			{Name: "id", Kind: value.Number}, {Name: "user", Kind: value.Word}, {Name: "time", Kind: value.Number},
		}),
		touch: table.New(touchName, []table.Column{
			{Name: "id", Kind: value.Number}, {Name: "tab", Kind: value.Word}, {Name: "row", Kind: value.Number},
		}),
	}
}

// HasTable tells whether a table of the log is called so.
func HasTable(name string) bool { return name == logName || name == touchName }

// Tables is the log's tables, as policies see them.
func (j *Journal) Tables() []*table.Table { return []*table.Table{j.log, j.touch} }

// Count is how many entries were written.
func (j *Journal) Count() int { return j.log.Last() }

// Write writes an entry, which touches each of the rows once.
func (j *Journal) Write(user string, time int64, touches []api.Touch) {
	id := value.OfNumber(int64(j.Count() + 1))
	j.log.Lay([]value.Value{id, value.OfWord(strings.Clone(user)), value.OfNumber(time)})
	for _, t := range touches {
		j.touch.Lay([]value.Value{id, value.OfWord(t.Table), value.OfNumber(int64(t.Row))})
	}
}
