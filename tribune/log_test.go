package tribune

import (
	"strings"
	"testing"

	"tribune/api"
)

// rowsOf tells the rows of a table of the log.
func rowsOf(x *Engine, table int) string {
	var rows []string
	for _, r := range x.log.Tables()[table].Rows {
		var texts []string
		for _, v := range r.Values {
			texts = append(texts, v.Text())
		}
		rows = append(rows, strings.Join(texts, " "))
	}
	return strings.Join(rows, ", ")
}

// P8: what is written of an answer, and that nothing is written of a refusal.
func TestAskWritesEntries(t *testing.T) {
	x := New()
	x.Create("u", "x:i")
	x.Create("t", "x:i")
	for i := range 12 {
		x.Insert("t", []string{[]string{"1", "2"}[i%2]})
	}
	x.Insert("u", []string{"2"})
	ask := func(user, text string, want api.Errno) {
		if _, e := x.Ask(user, text); e != want {
			t.Errorf("Ask(%q, %q): %d, want %d", user, text, e, want)
		}
	}
	ask("bob", "select a.x from u a, t b where (a.x = b.x and exists (select 1 from t c where c.x = 1))", api.OK)
	x.Tick(7)
	ask("", "select a.x from t a", api.ErrUser)
	ask("al", "select a.x from t a;", api.ErrText)
	ask("al", "select a.z from t a", api.ErrName)
	ask("al", "select a.x, count(*) from t a", api.ErrShape)
	ask("al", "select (a.x + 'a') from t a", api.ErrType)
	ask("al", "select (a.x * 1000000000000) from t a", api.ErrRun)
	ask("al", "select a.x from t a where a.x > 2", api.OK)
	x.Tick(9)
	ask("12345678", "select count(*) from t a where a.x = 1 having count(*) > 6", api.OK)
	ask("bob", "select max(b.x) from t b group by b.x having b.x = 1", api.OK)
	if got, want := rowsOf(x, 0), "1 'bob' 0, 2 'al' 7, 3 '12345678' 9, 4 'bob' 9"; got != want {
		t.Errorf("log: %q, want %q", got, want)
	}
	want := "1 't' 2, 1 't' 4, 1 't' 6, 1 't' 8, 1 't' 10, 1 't' 12, 1 'u' 1, 4 't' 1, 4 't' 3, 4 't' 5, 4 't' 7, 4 't' 9, 4 't' 11"
	if got := rowsOf(x, 1); got != want {
		t.Errorf("touch: %q, want %q", got, want)
	}
}
