// Package tribune: tables that answer only what their policies let them: see DOC.md.
package tribune

import (
	"slices"
	"strings"

	"tribune/api"
	"tribune/check"
	"tribune/journal"
	"tribune/policies"
	"tribune/query"
	"tribune/run"
	"tribune/table"
	"tribune/token"
	"tribune/touch"
	"tribune/value"
)

// Engine is tables, policies and a log.
type Engine struct {
	tables   []*table.Table
	log      journal.Journal
	policies policies.List
	clock    int64
}

// Print writes a query or a policy as it is written (P3).
func Print(text string) (string, api.Errno) {
	tokens, statement, ok := read(text)
	if !ok {
		return "", api.ErrText
	}
	if statement.Query.Depth() > api.MaxDepth {
		return "", api.ErrDeep
	}
	return token.Write(tokens), api.OK
}

// read reads a query or a policy, however deep; false, if it is none.
func read(text string) ([]token.Token, query.Statement, bool) {
	if len(text) > api.MaxText {
		return nil, query.Statement{}, false
	}
	// A policy is kept, and its names are pieces of the text, which is not to be kept.
	tokens, ok := token.Scan(strings.Clone(text))
	if !ok {
		return nil, query.Statement{}, false
	}
	statement, ok := query.Read(tokens)
	return tokens, statement, ok
}

// New makes an engine (P7).
func New() *Engine { return &Engine{} }

// Create makes a table (P7).
func (x *Engine) Create(name string, columns string) api.Errno {
	read, ok := table.ReadColumns(columns)
	if !ok || !token.IsName(name) {
		return api.ErrText
	}
	if table.Find(x.tables, name) != nil || journal.HasTable(name) || table.HasTwins(read) {
		return api.ErrName
	}
	if len(x.tables) >= api.MaxTables {
		return api.ErrFull
	}
	x.tables = append(x.tables, table.New(name, read))
	return api.OK
}

// Insert lays a row into a table (P7).
func (x *Engine) Insert(name string, values []string) (int, api.Errno) {
	t := table.Find(x.tables, name)
	if t == nil {
		return 0, api.ErrNone
	}
	return t.Insert(values)
}

// Delete takes a row out of a table (P7).
func (x *Engine) Delete(name string, row int) api.Errno {
	t := table.Find(x.tables, name)
	if t == nil {
		return api.ErrNone
	}
	return t.Delete(row)
}

// Ask answers a query, if the policies let it (P8).
func (x *Engine) Ask(user string, text string) (api.Answer, api.Errno) {
	if user == "" || !value.IsWord(user) {
		return api.Answer{}, api.ErrUser
	}
	q, errno := x.readQuery(text)
	if errno != api.OK {
		return api.Answer{}, errno
	}
	rows, ok := run.Rows(q, x.tables, x.clock)
	if !ok {
		return api.Answer{}, api.ErrRun
	}
	if x.log.Count() >= api.MaxEntries {
		return api.Answer{}, api.ErrFull
	}
	tried := x.log.With(user, x.clock, touched(rows))
	if n := x.policies.Finder(tried, x.tables, x.clock); n != 0 {
		return api.Answer{Denied: n}, api.ErrDenied
	}
	x.log = tried
	return api.Answer{Rows: rows}, api.OK
}

// readQuery reads a query that is right, and no policy.
func (x *Engine) readQuery(text string) (*query.Query, api.Errno) {
	statement, errno := readAs(text, query.Plain)
	if errno != api.OK {
		return nil, errno
	}
	return statement.Query, check.Query(statement.Query, x.tables)
}

// readAs reads a text that is of one of the forms, and not too deep.
func readAs(text string, forms ...query.Form) (query.Statement, api.Errno) {
	_, statement, ok := read(text)
	if !ok || !slices.Contains(forms, statement.Form) {
		return query.Statement{}, api.ErrText
	}
	if statement.Query.Depth() > api.MaxDepth {
		return query.Statement{}, api.ErrDeep
	}
	return statement, api.OK
}

// touched is what an answer is from.
func touched(rows []api.Row) []api.Touch {
	var froms [][]api.Touch
	for _, r := range rows {
		froms = append(froms, r.From)
	}
	return touch.Union(froms...)
}

// Tick sets the clock (P7).
func (x *Engine) Tick(time int) int {
	if t := int64(time); t > x.clock && t <= api.MaxNumber {
		x.clock = t
	}
	return int(x.clock)
}

// Add adds a policy (P9).
func (x *Engine) Add(policy string) (int, api.Errno) {
	rule, errno := x.readPolicy(policy)
	if errno != api.OK {
		return 0, errno
	}
	if x.policies.IsFull() {
		return 0, api.ErrFull
	}
	return x.policies.Add(rule, x.log.Count()), api.OK
}

// readPolicy reads a policy that is right, and no query.
func (x *Engine) readPolicy(text string) (query.Statement, api.Errno) {
	rule, errno := readAs(text, query.Within, query.Ever)
	if errno != api.OK {
		return query.Statement{}, errno
	}
	if rule.Span < 0 {
		return query.Statement{}, api.ErrText
	}
	return rule, check.Query(rule.Query, slices.Concat(x.log.Tables(), x.tables))
}

// Drop drops a policy (P9).
func (x *Engine) Drop(n int) api.Errno {
	if !x.policies.Drop(n) {
		return api.ErrNone
	}
	return api.OK
}

// Entries tells how many entries there are (P10).
func (x *Engine) Entries() int { return x.log.Count() }

// Compact throws away what no policy can see (P10).
func (x *Engine) Compact() { x.log = x.log.Behind(x.policies.Unseen(x.log, x.clock)) }

// Kept tells how many entries are kept (P10).
func (x *Engine) Kept() int { return x.log.Kept() }
