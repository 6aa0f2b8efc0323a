package tribune_test

import (
	"math"
	"strings"
	"testing"

	"tribune/api"
	"tribune/tribune"
)

func created(t *testing.T, x *tribune.Engine, name, columns string, want api.Errno) {
	t.Helper()
	if e := x.Create(name, columns); e != want {
		t.Errorf("P7: Create(%.20q, %.20q) = %d, want %d", name, columns, e, want)
	}
}

func inserted(t *testing.T, x *tribune.Engine, name, values string, number int, want api.Errno) {
	t.Helper()
	if n, e := x.Insert(name, strings.Split(values, "|")); n != number || e != want {
		t.Errorf("P7: Insert(%q, %q) = %d, %d, want %d, %d", name, values, n, e, number, want)
	}
}

func deleted(t *testing.T, x *tribune.Engine, name string, row int, want api.Errno) {
	t.Helper()
	if e := x.Delete(name, row); e != want {
		t.Errorf("P7: Delete(%q, %d) = %d, want %d", name, row, e, want)
	}
}

func TestCreateTexts(t *testing.T) {
	x := tribune.New()
	for _, name := range []string{"", "sevenls", "select", "ever", "now", "T", "t1", "1", "t ", " t", "t.u", "é", "\x00", strings.Repeat("a", 100000)} {
		created(t, x, name, "x:i", api.ErrText)
	}
	for _, columns := range []string{"", "x", "x:n", "x:i,", ",x:i", "x:i, y:t", "x:i;y:t", "now:i", "X:i", "sevenls:i", "x:i:t", ":i", "x:", "x:i\n", "a:i,b:i,c:i,d:i,e:i", strings.Repeat("x:i,", 100000)} {
		created(t, x, "t", columns, api.ErrText)
	}
	created(t, x, "t", "a:i,b:i,c:t,sixlet:t", api.OK)
	created(t, x, "sixlet", "i:i", api.OK)
}

func TestCreateNames(t *testing.T) {
	x := tribune.New()
	created(t, x, "t", "x:i", api.OK)
	created(t, x, "t", "x:i", api.ErrName)
	created(t, x, "t", "y:t", api.ErrName)
	created(t, x, "log", "x:i", api.ErrName)
	created(t, x, "touch", "x:i", api.ErrName)
	created(t, x, "u", "x:i,x:i", api.ErrName)
	created(t, x, "u", "a:i,b:i,c:i,a:t", api.ErrName)
	created(t, x, "u", "log:i,touch:t,u:i", api.OK)
}

func TestCreateFull(t *testing.T) {
	x := tribune.New()
	for i := range api.MaxTables {
		created(t, x, string(rune('a'+i)), "x:i", api.OK)
	}
	created(t, x, "t", "x:i", api.ErrFull)
	created(t, x, "t", "x:i,x:i", api.ErrName)
	created(t, x, "a", "x:i", api.ErrName)
	created(t, x, "log", "x:i", api.ErrName)
	created(t, x, "log", "x:i,", api.ErrText)
	created(t, x, "a", "x:i ", api.ErrText)
	created(t, x, "A", "x:i,x:i", api.ErrText)
	inserted(t, x, "t", "1", 0, api.ErrNone)
	inserted(t, x, "f", "1", 1, api.OK)
}

func TestInsertValues(t *testing.T) {
	x := tribune.New()
	created(t, x, "t", "x:i,y:t", api.OK)
	number := 0
	for _, values := range []string{"1|'a'", "2|null", "null|null", "0|''", "-1|'0'", "1000000000000|'z9z9z9z9'", "-1000000000000|'null'"} {
		number++
		inserted(t, x, "t", values, number, api.OK)
	}
	for _, values := range []string{
		"", "1", "1|'a'|1", "|'a'", "1|", "01|'a'", "-0|'a'", "+1|'a'", " 1|'a'", "1 |'a'", "- 1|'a'", "1.0|'a'", "1e1|'a'", "now|'a'", "(1 + 1)|'a'",
		"1000000000001|'a'", "-1000000000001|'a'", "99999999999999999999|'a'", "-|'a'", "NULL|'a'",
		"1|a", "1|'a", "1|a'", "1|'", "1|'A'", "1|'a b'", "1| 'a'", "1|'z9z9z9z9z'", "1|'''", "1|'é'", "1|\"a\"",
		"'a'|01", "'a'|a", "01|1", "'a'|'A'",
	} {
		inserted(t, x, "t", values, 0, api.ErrText)
	}
	for _, values := range []string{"'a'|'a'", "1|1", "'a'|1", "null|0", "''|null", "'1'|'1'"} {
		inserted(t, x, "t", values, 0, api.ErrType)
	}
	inserted(t, x, "t", "1|'a'", number+1, api.OK)
	inserted(t, x, "u", "1|'a'", 0, api.ErrNone)
	if n, e := x.Insert("t", nil); n != 0 || e != api.ErrText {
		t.Errorf("P7: Insert of nothing: %d, %d", n, e)
	}
	if n, e := x.Insert("", nil); n != 0 || e != api.ErrNone {
		t.Errorf("P7: Insert of nothing into nothing: %d, %d", n, e)
	}
}

func TestInsertFull(t *testing.T) {
	x := tribune.New()
	created(t, x, "t", "x:i", api.OK)
	created(t, x, "u", "x:i", api.OK)
	for i := range api.MaxRows {
		inserted(t, x, "t", "7", i+1, api.OK)
	}
	inserted(t, x, "t", "7", 0, api.ErrFull)
	inserted(t, x, "t", "'a'", 0, api.ErrType)
	inserted(t, x, "t", "07", 0, api.ErrText)
	inserted(t, x, "u", "7", 1, api.OK)
	deleted(t, x, "t", api.MaxRows, api.OK)
	inserted(t, x, "t", "7", api.MaxRows+1, api.OK)
	inserted(t, x, "t", "7", 0, api.ErrFull)
}

func TestDelete(t *testing.T) {
	x := tribune.New()
	created(t, x, "t", "x:i", api.OK)
	created(t, x, "u", "x:i", api.OK)
	for i := range 3 {
		inserted(t, x, "t", "7", i+1, api.OK)
	}
	for _, row := range []int{0, -1, 4, math.MinInt, math.MaxInt} {
		deleted(t, x, "t", row, api.ErrNone)
	}
	for _, name := range []string{"", "v", "log", "touch", "T", "t ", "select"} {
		deleted(t, x, name, 1, api.ErrNone)
	}
	deleted(t, x, "u", 1, api.ErrNone)
	for _, row := range []int{2, 3, 1} {
		deleted(t, x, "t", row, api.OK)
		deleted(t, x, "t", row, api.ErrNone)
	}
	inserted(t, x, "t", "7", 4, api.OK)
	created(t, x, "t", "x:i", api.ErrName)
}

func TestTick(t *testing.T) {
	x := tribune.New()
	for _, c := range [][2]int{
		{0, 0}, {-1, 0}, {math.MinInt, 0}, {math.MaxInt, 0}, {api.MaxNumber + 1, 0}, {1, 1}, {5, 5}, {5, 5}, {4, 5}, {-5, 5}, {0, 5},
		{api.MaxNumber - 1, api.MaxNumber - 1}, {api.MaxNumber + 1, api.MaxNumber - 1}, {api.MaxNumber, api.MaxNumber}, {1, api.MaxNumber}, {math.MaxInt, api.MaxNumber},
	} {
		if got := x.Tick(c[0]); got != c[1] {
			t.Errorf("P7: Tick(%d) = %d, want %d", c[0], got, c[1])
		}
	}
}
