package check

import (
	"testing"

	"tribune/api"
	"tribune/query"
	"tribune/table"
	"tribune/token"
	"tribune/value"
)

func read(t *testing.T, text string) *query.Query {
	t.Helper()
	tokens, _ := token.Scan(text)
	s, ok := query.Read(tokens)
	if !ok {
		t.Fatalf("%q is no query", text)
	}
	return s.Query
}

func tables() []*table.Table {
	var tables []*table.Table
	for name, columns := range map[string]string{"t": "x:i,y:t", "u": "k:t,n:i"} {
		read, _ := table.ReadColumns(columns)
		tables = append(tables, table.New(name, read))
	}
	return tables
}

func TestQuery(t *testing.T) {
	for text, want := range map[string]api.Errno{
		"select a.x from t a":                                       api.OK,
		"select a.x, b.n from t a, u b where a.y = b.k":             api.OK,
		"select a.y, count(*) from t a group by a.y":                api.OK,
		"select a.x from nope a":                                    api.ErrName,
		"select a.n from t a":                                       api.ErrName,
		"select a.x from t a, t a":                                  api.ErrName,
		"select a.x from t a, t b, t c, t d":                        api.ErrName,
		"select a.z, count(*), ('a' + 1) from t a":                  api.ErrName,
		"select a.x, count(*), ('a' + 1) from t a":                  api.ErrShape,
		"select count(*), ('a' + 1) from t a":                       api.ErrType,
		"select 1 from t a where exists (select a.x, b.x from u b)": api.ErrName,
		"select 1 from t a where exists (select a.x, b.n from u b)": api.OK,
	} {
		if got := Query(read(t, text), tables()); got != want {
			t.Errorf("Query(%q) = %d, want %d", text, got, want)
		}
	}
	if got := Query(read(t, "select a.x from t a"), nil); got != api.ErrName {
		t.Errorf("Query over no tables: %d", got)
	}
}

func TestPlaces(t *testing.T) {
	q := read(t, "select b.n, a.y from t a, u b where (exists (select 1 from t c where c.x = b.n) and exists (select 1 from u d where d.n = a.x))")
	if e := Query(q, tables()); e != api.OK {
		t.Fatalf("Query: %d", e)
	}
	first, second := q.Where.Parts[0].Query.Where, q.Where.Parts[1].Query.Where
	for i, c := range []struct {
		column *query.Node
		want   query.Place
	}{
		{q.Exprs[0], query.Place{Source: 1, Column: 1, Kind: value.Number}},
		{q.Exprs[1], query.Place{Source: 0, Column: 1, Kind: value.Word}},
		{first.Parts[0], query.Place{Source: 2, Column: 0, Kind: value.Number}},
		{first.Parts[1], query.Place{Source: 1, Column: 1, Kind: value.Number}},
		{second.Parts[0], query.Place{Source: 2, Column: 1, Kind: value.Number}},
		{second.Parts[1], query.Place{Source: 0, Column: 0, Kind: value.Number}},
	} {
		if c.column.Place != c.want {
			t.Errorf("column %d is at %v, want %v", i, c.column.Place, c.want)
		}
	}
}
