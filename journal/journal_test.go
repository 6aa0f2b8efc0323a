package journal

import (
	"reflect"
	"strconv"
	"strings"
	"testing"
	"unsafe"

	"tribune/api"
	"tribune/table"
	"tribune/value"
)

func told(t *table.Table) string {
	var rows []string
	for _, r := range t.Rows {
		var texts []string
		for _, v := range r.Values {
			texts = append(texts, v.Text())
		}
		rows = append(rows, strings.Join(texts, " "))
	}
	return t.Name + ": " + strings.Join(rows, ", ")
}

func holds(t *testing.T, j Journal, count, kept int, log, touch string) {
	t.Helper()
	if j.Count() != count || j.Kept() != kept {
		t.Errorf("%d of %d entries are kept, want %d of %d", j.Kept(), j.Count(), kept, count)
	}
	for i, want := range []string{"log: " + log, "touch: " + touch} {
		if got := told(j.Tables()[i]); got != want {
			t.Errorf("%q, want %q", got, want)
		}
	}
}

// three is a log with three entries.
func three() Journal {
	return Journal{}.
		With("bob", 0, nil).
		With("al1", 1000000000000, []api.Touch{{Table: "t", Row: 3}, {Table: "u", Row: 1}}).
		With("bob", 1000000000000, []api.Touch{{Table: "t", Row: 3}})
}

func TestWith(t *testing.T) {
	holds(t, Journal{}, 0, 0, "", "")
	holds(t, three(), 3, 3, "1 'bob' 0, 2 'al1' 1000000000000, 3 'bob' 1000000000000", "2 't' 3, 2 'u' 1, 3 't' 3")
}

// An entry that is tried leaves nothing behind in the log that it was tried on.
func TestWithLeavesTheLog(t *testing.T) {
	j, log, touch := Journal{}, "", ""
	for n := 1; n < 10; n++ {
		j = j.With("bob", 0, []api.Touch{{Table: "t", Row: 1}})
		id, next := strconv.Itoa(n), strconv.Itoa(n+1)
		log, touch = log+id+" 'bob' 0", touch+id+" 't' 1"
		first, second := j.With("al", 1, []api.Touch{{Table: "t", Row: 2}}), j.With("cid", 2, []api.Touch{{Table: "t", Row: 3}})
		holds(t, j, n, n, log, touch)
		log, touch = log+", ", touch+", "
		holds(t, first, n+1, n+1, log+next+" 'al' 1", touch+next+" 't' 2")
		holds(t, second, n+1, n+1, log+next+" 'cid' 2", touch+next+" 't' 3")
	}
}

func TestBehind(t *testing.T) {
	j := three()
	holds(t, j.Behind(0), 3, 3, "1 'bob' 0, 2 'al1' 1000000000000, 3 'bob' 1000000000000", "2 't' 3, 2 'u' 1, 3 't' 3")
	holds(t, j.Behind(1), 3, 2, "2 'al1' 1000000000000, 3 'bob' 1000000000000", "2 't' 3, 2 'u' 1, 3 't' 3")
	holds(t, j.Behind(2), 3, 1, "3 'bob' 1000000000000", "3 't' 3")
	holds(t, j.Behind(3), 3, 0, "", "")
	holds(t, j.Behind(2).Behind(1), 3, 1, "3 'bob' 1000000000000", "3 't' 3")
	holds(t, j.Behind(3).With("cid", 1000000000000, nil), 4, 1, "4 'cid' 1000000000000", "")
	holds(t, j, 3, 3, "1 'bob' 0, 2 'al1' 1000000000000, 3 'bob' 1000000000000", "2 't' 3, 2 'u' 1, 3 't' 3")
}

func TestLastUntil(t *testing.T) {
	j := Journal{}.With("bob", 0, nil).With("bob", 5, nil).With("bob", 5, nil).With("bob", 7, nil)
	for time, want := range map[int64]int{-1000000000000: 0, -1: 0, 0: 1, 4: 1, 5: 3, 6: 3, 7: 4, 1000000000000: 4} {
		if got := j.LastUntil(time); got != want {
			t.Errorf("LastUntil(%d) = %d, want %d", time, got, want)
		}
	}
	if got := j.Behind(3).LastUntil(6); got != 0 {
		t.Errorf("LastUntil of entries that are not kept: %d", got)
	}
}

func TestColumns(t *testing.T) {
	tables := Journal{}.Tables()
	if want := []table.Column{{Name: "id", Kind: value.Number}, {Name: "user", Kind: value.Word}, {Name: "time", Kind: value.Number}}; !reflect.DeepEqual(tables[0].Columns, want) {
		t.Errorf("log has %v", tables[0].Columns)
	}
	if want := []table.Column{{Name: "id", Kind: value.Number}, {Name: "tab", Kind: value.Word}, {Name: "row", Kind: value.Number}}; !reflect.DeepEqual(tables[1].Columns, want) {
		t.Errorf("touch has %v", tables[1].Columns)
	}
	for name, want := range map[string]bool{"log": true, "touch": true, "": false, "t": false, "logs": false} {
		if HasTable(name) != want {
			t.Errorf("HasTable(%q) is not %t", name, want)
		}
	}
}

func TestWithKeepsNoText(t *testing.T) {
	memory := []byte("bob")
	j := Journal{}.With(unsafe.String(&memory[0], len(memory)), 0, nil)
	memory[0] = 'r'
	holds(t, j, 1, 1, "1 'bob' 0", "")
}
