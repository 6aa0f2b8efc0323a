package policies

import (
	"slices"
	"testing"

	"tribune/api"
	"tribune/check"
	"tribune/journal"
	"tribune/query"
	"tribune/table"
	"tribune/token"
)

// ruled reads a policy over the log's tables.
func ruled(t *testing.T, text string, tables ...*table.Table) query.Statement {
	t.Helper()
	tokens, _ := token.Scan(text)
	s, ok := query.Read(tokens)
	if !ok || check.Query(s.Query, slices.Concat(journal.Journal{}.Tables(), tables)) != api.OK {
		t.Fatalf("%q is no policy", text)
	}
	return s
}

func TestNumbers(t *testing.T) {
	var l List
	rule := ruled(t, "ever select a.id from log a")
	for n := 1; n <= api.MaxPolicies; n++ {
		if l.IsFull() || l.Add(rule, 0) != n {
			t.Errorf("policy %d is not added", n)
		}
	}
	if !l.IsFull() || l.Drop(0) || l.Drop(-1) || l.Drop(api.MaxPolicies+1) {
		t.Error("a policy is there that is none")
	}
	for n := 7; n < 20; n++ {
		if !l.Drop(n-6) || l.Drop(n-6) || l.IsFull() || l.Add(rule, 0) != n || !l.IsFull() {
			t.Errorf("policy %d is not added for %d", n, n-6)
		}
	}
	if !l.Drop(19) || l.Add(rule, 0) != 20 {
		t.Error("the number of the last policy is given twice")
	}
}

// at is a log with an entry at each time, each of which touches the row with the entry's number.
func at(times ...int64) journal.Journal {
	var j journal.Journal
	for i, time := range times {
		j = j.With("bob", time, []api.Touch{{Table: "t", Row: i + 1}})
	}
	return j
}

func TestUnseen(t *testing.T) {
	for _, c := range []struct {
		policies map[string]int
		now      int64
		want     int
	}{
		{nil, 10, 5},
		{map[string]int{"ever ": 0}, 10, 0},
		{map[string]int{"ever ": 5}, 10, 5},
		{map[string]int{"ever ": 2}, 10, 2},
		{map[string]int{"within 0 ": 0}, 10, 5},
		{map[string]int{"within 1 ": 0}, 10, 4},
		{map[string]int{"within 1 ": 0}, 11, 5},
		{map[string]int{"within 3 ": 0}, 10, 4},
		{map[string]int{"within 4 ": 0}, 10, 2},
		{map[string]int{"within 4 ": 3}, 10, 3},
		{map[string]int{"within 10 ": 0}, 10, 1},
		{map[string]int{"within 11 ": 0}, 10, 0},
		{map[string]int{"within 1000000000000 ": 1}, 10, 1},
		{map[string]int{"within 1000000000000 ": 1}, 1000000000000, 1},
		{map[string]int{"within 1 ": 0, "within 4 ": 0, "ever ": 3}, 10, 2},
		{map[string]int{"within 1 ": 0, "within 4 ": 4, "ever ": 3}, 10, 3},
	} {
		var l List
		for text, since := range c.policies {
			l.Add(ruled(t, text+"select a.id from log a"), since)
		}
		if got := l.Unseen(at(0, 3, 7, 7, 10), c.now); got != c.want {
			t.Errorf("%v at %d: the last entry out of sight is %d, want %d", c.policies, c.now, got, c.want)
		}
	}
}

func TestFinder(t *testing.T) {
	columns, _ := table.ReadColumns("x:i")
	own := table.New("t", columns)
	own.Insert([]string{"4"})
	for text, want := range map[string]bool{
		"ever select a.id from log a where a.id < 3":                   false,
		"ever select a.id from log a where a.id = 3":                   true,
		"within 7 select a.id from log a where a.id = 3":               false,
		"within 8 select a.id from log a where a.id = 3":               true,
		"ever select 1 from log a having count(*) > 3":                 false,
		"ever select 1 from log a having count(*) = 3":                 true,
		"ever select a.row from touch a where (a.row < 3 or a.id < 3)": false,
		"ever select 1 from touch a having count(*) = 3":               true,
		"ever select 1 from touch a, t b where a.row = b.x":            true,
		"ever select 1 from t b where b.x = 5":                         false,
		"ever select 1 from t b where (now + 999999999991) = b.x":      true,
	} {
		var l List
		if l.Finder(at(0, 0, 3, 7, 10), []*table.Table{own}, 10) != 0 {
			t.Error("no policy finds something")
		}
		l.Add(ruled(t, "ever select a.id from log a where a.user = 'al'", own), 0)
		l.Add(ruled(t, text, own), 2)
		l.Add(ruled(t, "ever select a.id from log a", own), 4)
		number := 3
		if want {
			number = 2
		}
		if got := l.Finder(at(0, 0, 3, 7, 10), []*table.Table{own}, 10); got != number {
			t.Errorf("%q: policy %d finds something, want %d", text, got, number)
		}
	}
}
