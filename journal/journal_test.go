package journal

import (
	"reflect"
	"strings"
	"testing"
	"unsafe"

	"tribune/api"
	"tribune/table"
	"tribune/value"
)

func told(t *table.Table) string {
	var rows []string
	for _, r := range t.Rows {
		var texts []string
		for _, v := range r.Values {
			texts = append(texts, v.Text())
		}
		rows = append(rows, strings.Join(texts, " "))
	}
	return t.Name + ": " + strings.Join(rows, ", ")
}

func TestWrite(t *testing.T) {
	j := New()
	if j.Count() != 0 {
		t.Errorf("a new log has %d entries", j.Count())
	}
	j.Write("bob", 0, nil)
	j.Write("al1", 1000000000000, []api.Touch{{Table: "t", Row: 3}, {Table: "u", Row: 1}})
	j.Write("bob", 1000000000000, []api.Touch{{Table: "t", Row: 3}})
	if j.Count() != 3 {
		t.Errorf("the log has %d entries", j.Count())
	}
	for i, want := range []string{"log: 1 'bob' 0, 2 'al1' 1000000000000, 3 'bob' 1000000000000", "touch: 2 't' 3, 2 'u' 1, 3 't' 3"} {
		if got := told(j.Tables()[i]); got != want {
			t.Errorf("%q, want %q", got, want)
		}
	}
}

func TestColumns(t *testing.T) {
	tables := New().Tables()
	if want := []table.Column{{Name: "id", Kind: value.Number}, {Name: "user", Kind: value.Word}, {Name: "time", Kind: value.Number}}; !reflect.DeepEqual(tables[0].Columns, want) {
		t.Errorf("log has %v", tables[0].Columns)
	}
	if want := []table.Column{{Name: "id", Kind: value.Number}, {Name: "tab", Kind: value.Word}, {Name: "row", Kind: value.Number}}; !reflect.DeepEqual(tables[1].Columns, want) {
		t.Errorf("touch has %v", tables[1].Columns)
	}
	for name, want := range map[string]bool{"log": true, "touch": true, "": false, "t": false, "logs": false} {
		if HasTable(name) != want {
			t.Errorf("HasTable(%q) is not %t", name, want)
		}
	}
}

func TestWriteKeepsNoText(t *testing.T) {
	j := New()
	memory := []byte("bob")
	j.Write(unsafe.String(&memory[0], len(memory)), 0, nil)
	memory[0] = 'r'
	if got := told(j.Tables()[0]); got != "log: 1 'bob' 0" {
		t.Errorf("the log is %q now", got)
	}
}
