// Package tribune: tables that answer only what their policies let them: see DOC.md.
package tribune

import (
	"tribune/api"
	"tribune/query"
	"tribune/table"
	"tribune/token"
)

// Engine is tables, policies and a log.
type Engine struct {
	tables []*table.Table
	clock  int64
}

// Print writes a query or a policy as it is written (P3).
func Print(text string) (string, api.Errno) {
	if len(text) > api.MaxText {
		return "", api.ErrText
	}
	tokens, ok := token.Scan(text)
	if !ok {
		return "", api.ErrText
	}
	statement, ok := query.Read(tokens)
	if !ok {
		return "", api.ErrText
	}
	if statement.Query.Depth() > api.MaxDepth {
		return "", api.ErrDeep
	}
	return token.Write(tokens), api.OK
}

// New makes an engine (P7).
func New() *Engine { return &Engine{} }

// Create makes a table (P7).
func (x *Engine) Create(name string, columns string) api.Errno {
	read, ok := table.ReadColumns(columns)
	if !ok || !token.IsName(name) {
		return api.ErrText
	}
	if x.find(name) != nil || isLogs(name) || table.HasTwins(read) {
		return api.ErrName
	}
	if len(x.tables) >= api.MaxTables {
		return api.ErrFull
	}
	x.tables = append(x.tables, table.New(name, read))
	return api.OK
}

// isLogs tells whether a table of the log is called so.
func isLogs(name string) bool { return name == "log" || name == "touch" }

// find is the table that is called so, or nil.
func (x *Engine) find(name string) *table.Table {
	for _, t := range x.tables {
		if t.Name == name {
			return t
		}
	}
	return nil
}

// Insert lays a row into a table (P7).
func (x *Engine) Insert(name string, values []string) (int, api.Errno) {
	t := x.find(name)
	if t == nil {
		return 0, api.ErrNone
	}
	return t.Insert(values)
}

// Delete takes a row out of a table (P7).
func (x *Engine) Delete(name string, row int) api.Errno {
	t := x.find(name)
	if t == nil {
		return api.ErrNone
	}
	return t.Delete(row)
}

// Ask answers a query, if the policies let it (P8).
func (x *Engine) Ask(user string, text string) (api.Answer, api.Errno) { return api.Answer{}, api.OK }

// Tick sets the clock (P7).
func (x *Engine) Tick(time int) int {
	if t := int64(time); t > x.clock && t <= api.MaxNumber {
		x.clock = t
	}
	return int(x.clock)
}

// Add adds a policy (P9).
func (x *Engine) Add(policy string) (int, api.Errno) { return 0, api.OK }

// Drop drops a policy (P9).
func (x *Engine) Drop(n int) api.Errno { return api.OK }

// Entries tells how many entries there are (P10).
func (x *Engine) Entries() int { return 0 }

// Compact throws away what no policy can see (P10).
func (x *Engine) Compact() {}

// Kept tells how many entries are kept (P10).
func (x *Engine) Kept() int { return 0 }
