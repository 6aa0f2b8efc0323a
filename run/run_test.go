package run

import (
	"reflect"
	"testing"

	"tribune/api"
	"tribune/check"
	"tribune/query"
	"tribune/table"
	"tribune/token"
)

// read reads a query over the table t.
func read(t *testing.T, text string) (*query.Query, []*table.Table) {
	t.Helper()
	columns, _ := table.ReadColumns("x:i,y:t")
	rows := table.New("t", columns)
	for _, values := range [][]string{{"1", "'a'"}, {"2", "null"}, {"3", "'a'"}} {
		if _, e := rows.Insert(values); e != api.OK {
			t.Fatalf("Insert(%q): %d", values, e)
		}
	}
	tokens, _ := token.Scan(text)
	s, ok := query.Read(tokens)
	tables := []*table.Table{rows}
	if !ok || check.Query(s.Query, tables) != api.OK {
		t.Fatalf("%q is no query", text)
	}
	return s.Query, tables
}

func worked(t *testing.T, text string, now int64) ([]api.Row, bool) {
	t.Helper()
	q, tables := read(t, text)
	return Rows(q, tables, now)
}

func TestRows(t *testing.T) {
	first, second, third := api.Touch{Table: "t", Row: 1}, api.Touch{Table: "t", Row: 2}, api.Touch{Table: "t", Row: 3}
	for text, want := range map[string][]api.Row{
		"select (now - a.x) from t a where a.y = 'a'": {{Values: []string{"6"}, From: []api.Touch{third}}, {Values: []string{"8"}, From: []api.Touch{first}}},
		"select a.y, count(*), sum(a.x) from t a group by a.y": {
			{Values: []string{"null", "1", "2"}, From: []api.Touch{second}},
			{Values: []string{"'a'", "2", "4"}, From: []api.Touch{first, third}},
		},
		"select a.x from t a where exists (select 1 from t b where b.x < a.x having count(*) = 1)": {{Values: []string{"2"}, From: []api.Touch{second}}},
		"select 1 from t a where a.x > 3": nil,
	} {
		if got, ok := worked(t, text, 9); !reflect.DeepEqual(got, want) || !ok {
			t.Errorf("%q: %v, %t, want %v", text, got, ok, want)
		}
	}
}

func TestFailures(t *testing.T) {
	for _, text := range []string{
		"select (now + a.x) from t a", "select (a.x * 1000000000000) from t a", "select sum((a.x * 300000000000)) from t a",
		"select 1 from t a where exists (select (now + b.x) from t b)", "select 1 from t a having (now + count(*)) = 1",
	} {
		if got, ok := worked(t, text, api.MaxNumber); got != nil || ok {
			t.Errorf("%q: %v, %t", text, got, ok)
		}
	}
}

func TestFinds(t *testing.T) {
	for text, want := range map[string]bool{
		"select 1 from t a": true, "select null from t a where a.x = 2": true, "select 1 from t a where a.x > 3": false, "select count(*) from t a where a.x > 3": true,
		"select count(*) from t a where a.x > 3 group by a.x": false, "select 1 from t a having count(*) > 3": false, "select 1 from t a where now = 9": true,
		"select (a.x * 1000000000000) from t a": true, "select 1 from t a where (1 = 2 and (a.x * 1000000000000) = 1)": true,
	} {
		q, tables := read(t, text)
		if Finds(q, tables, 9) != want {
			t.Errorf("%q: not %t", text, want)
		}
	}
}
