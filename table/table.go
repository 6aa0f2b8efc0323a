// Package table keeps the rows of a table.
package table

import (
	"slices"
	"strings"

	"tribune/api"
	"tribune/token"
	"tribune/value"
)

// Column is a column and the kind of its values that are not null.
type Column struct {
	Name string
	Kind value.Kind
}

// Row is a row and its number.
type Row struct {
	Number int
	Values []value.Value
}

// Table is columns and rows.
type Table struct {
	Name    string
	Columns []Column
	Rows    []Row
	last    int // the number given last: the row that had it may be gone
}

// New makes a table without rows; it takes the columns over.
func New(name string, columns []Column) *Table {
	return &Table{Name: strings.Clone(name), Columns: columns}
}

// Find is the table that is called so, or nil.
func Find(tables []*Table, name string) *Table {
	for _, t := range tables {
		if t.Name == name {
			return t
		}
	}
	return nil
}

// ReadColumns reads columns as Create has them; false, if they are not written so.
func ReadColumns(text string) ([]Column, bool) {
	// One piece more than may be tells of too many, however long the text is.
	pieces := strings.SplitN(text, ",", api.MaxColumns+1)
	if len(pieces) > api.MaxColumns {
		return nil, false
	}
	var columns []Column
	for _, piece := range pieces {
		c, ok := readColumn(piece)
		if !ok {
			return nil, false
		}
		columns = append(columns, c)
	}
	return columns, true
}

func readColumn(text string) (Column, bool) {
	name, kind, _ := strings.Cut(text, ":")
	if !token.IsName(name) {
		return Column{}, false
	}
	switch kind {
	case "i":
		return Column{Name: strings.Clone(name), Kind: value.Number}, true
	case "t":
		return Column{Name: strings.Clone(name), Kind: value.Word}, true
	}
	return Column{}, false
}

// HasTwins tells whether two columns are called the same.
func HasTwins(columns []Column) bool {
	for i, c := range columns {
		for _, other := range columns[:i] {
			if c.Name == other.Name {
				return true
			}
		}
	}
	return false
}

// Insert lays a row into the table, and answers its number.
func (t *Table) Insert(texts []string) (int, api.Errno) {
	values, ok := t.readValues(texts)
	if !ok {
		return 0, api.ErrText
	}
	if !t.isTyped(values) {
		return 0, api.ErrType
	}
	if len(t.Rows) >= api.MaxRows {
		return 0, api.ErrFull
	}
	t.last++
	t.Rows = append(t.Rows, Row{Number: t.last, Values: values})
	return t.last, api.OK
}

func (t *Table) readValues(texts []string) ([]value.Value, bool) {
	if len(texts) != len(t.Columns) {
		return nil, false
	}
	values := make([]value.Value, len(texts))
	for i, text := range texts {
		v, ok := value.Read(text)
		if !ok {
			return nil, false
		}
		values[i] = v
	}
	return values, true
}

func (t *Table) isTyped(values []value.Value) bool {
	for i, v := range values {
		if v.Kind != value.Null && v.Kind != t.Columns[i].Kind {
			return false
		}
	}
	return true
}

// Delete takes a row out of the table.
func (t *Table) Delete(number int) api.Errno {
	i := slices.IndexFunc(t.Rows, func(r Row) bool { return r.Number == number })
	if i < 0 {
		return api.ErrNone
	}
	t.Rows = slices.Delete(t.Rows, i, i+1)
	return api.OK
}
