package table

import (
	"reflect"
	"strings"
	"testing"
	"unsafe"

	"tribune/api"
	"tribune/value"
)

func TestReadColumns(t *testing.T) {
	got, ok := ReadColumns("x:i,sixlet:t,i:i,t:t")
	want := []Column{{"x", value.Number}, {"sixlet", value.Word}, {"i", value.Number}, {"t", value.Word}}
	if !ok || !reflect.DeepEqual(got, want) {
		t.Errorf("ReadColumns: %v, %t", got, ok)
	}
	for _, text := range []string{
		"", ",", ":", "x", "x:", ":i", "x:it", "x:I", "x i", "x:i,", ",x:i", "x:i,,y:i", "x:i;y:i", "x:i y:i", "x :i", "x: i", " x:i", "x:i ",
		"X:i", "x1:i", "sevenls:i", "select:i", "ever:t", "x:i:i", "x::i", "a:i,b:i,c:i,d:i,e:i", "a:i,b:i,c:i,d:i,", "é:i",
		strings.Repeat("x:i,", 100000) + "x:i", strings.Repeat("x", 100000) + ":i", "x:" + strings.Repeat("i", 100000),
	} {
		if got, ok := ReadColumns(text); got != nil || ok {
			t.Errorf("ReadColumns(%.20q) = %v, %t", text, got, ok)
		}
	}
}

func TestHasTwins(t *testing.T) {
	for text, want := range map[string]bool{"x:i": false, "x:i,y:i": false, "x:i,x:t": true, "x:i,y:i,z:i,y:i": true, "a:i,b:i,c:i,d:i": false} {
		columns, _ := ReadColumns(text)
		if HasTwins(columns) != want {
			t.Errorf("HasTwins(%s) is not %t", text, want)
		}
	}
}

func TestRows(t *testing.T) {
	columns, _ := ReadColumns("x:i,y:t")
	x := New("t", columns)
	for i, values := range [][]string{{"-5", "'a'"}, {"null", "null"}, {"0", "''"}} {
		if n, e := x.Insert(values); n != i+1 || e != api.OK {
			t.Errorf("Insert(%q) = %d, %d", values, n, e)
		}
	}
	if e := x.Delete(2); e != api.OK {
		t.Errorf("Delete: %d", e)
	}
	want := []Row{
		{1, []value.Value{{Kind: value.Number, Number: -5}, {Kind: value.Word, Word: "a"}}},
		{3, []value.Value{{Kind: value.Number}, {Kind: value.Word}}},
	}
	if !reflect.DeepEqual(x.Rows, want) {
		t.Errorf("the rows are %v, want %v", x.Rows, want)
	}
}

func TestReadColumnsKeepsNothing(t *testing.T) {
	memory := []byte("x:i,y:t")
	got, _ := ReadColumns(unsafe.String(&memory[0], len(memory)))
	memory[0], memory[4] = 'u', 'v'
	if got[0].Name != "x" || got[1].Name != "y" {
		t.Errorf("the columns are %v now", got)
	}
}
