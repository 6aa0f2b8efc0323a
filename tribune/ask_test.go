package tribune_test

import (
	"strconv"
	"strings"
	"testing"

	"tribune/api"
	"tribune/tribune"
)

// told writes an answer: of each row its values, and behind "<" what it is from.
func told(a api.Answer) string {
	var rows []string
	for _, r := range a.Rows {
		text := strings.Join(r.Values, " ") + " <"
		for _, f := range r.From {
			text += " " + f.Table + strconv.Itoa(f.Row)
		}
		rows = append(rows, text)
	}
	return strings.Join(rows, "; ")
}

func asked(t *testing.T, x *tribune.Engine, text, want string) {
	t.Helper()
	before := x.Entries()
	a, e := x.Ask("bob", text)
	if got := told(a); got != want || e != api.OK || a.Denied != 0 {
		t.Errorf("P5, P6: Ask(%q) = %q, %d, %d, want %q", text, got, a.Denied, e, want)
	}
	if x.Entries() != before+1 {
		t.Errorf("P10: Ask(%q): %d entries, then %d", text, before, x.Entries())
	}
}

func refused(t *testing.T, x *tribune.Engine, text string, want api.Errno) {
	t.Helper()
	before := x.Entries()
	a, e := x.Ask("bob", text)
	if e != want || len(a.Rows) != 0 || a.Denied != 0 {
		t.Errorf("P8: Ask(%.60q) = %q, %d, %d, want %d", text, told(a), a.Denied, e, want)
	}
	if x.Entries() != before {
		t.Errorf("P1: Ask(%.60q): %d entries, then %d", text, before, x.Entries())
	}
}

// filled makes an engine with tables, each "name columns" with its rows behind it.
func filled(t *testing.T, tables ...[]string) *tribune.Engine {
	t.Helper()
	x := tribune.New()
	for _, table := range tables {
		name, columns, _ := strings.Cut(table[0], " ")
		created(t, x, name, columns, api.OK)
		for i, values := range table[1:] {
			inserted(t, x, name, values, i+1, api.OK)
		}
	}
	return x
}

// sized makes rows of one number each, from 1 on.
func sized(table string, n int) []string {
	rows := []string{table + " x:i"}
	for i := range n {
		rows = append(rows, strconv.Itoa(i+1))
	}
	return rows
}

func few(t *testing.T) *tribune.Engine {
	t.Helper()
	return filled(t, []string{"t x:i,y:t", "1|'a'", "2|null"})
}

func TestAskOfExamples(t *testing.T) {
	x := few(t)
	asked(t, x, "select a.x from t a where a.y = 'a'", "1 < t1")
	asked(t, x, "select a.y from t a", "null < t2; 'a' < t1")
	asked(t, x, "select count(*), sum(a.x), count(a.y) from t a", "2 3 1 < t1 t2")
	asked(t, x, "select max(a.x) from t a where a.x > 5", "null <")
	asked(t, x, "select a.x from t a group by a.x having count(*) > 1", "")
	asked(t, x, "select a.x from t a where (a.y = 'a' or not a.y = 'a')", "1 < t1")
	asked(t, x, "select a.x from t a where exists (select b.x from t b where b.x > a.x)", "1 < t1")
	for text, want := range map[string]api.Errno{
		"select a.z from t a": api.ErrName, "select a.x from t a, t a": api.ErrName, "select a.id from log a": api.ErrName,
		"select a.x, count(*) from t a": api.ErrShape, "select a.x from t a where count(*) = 1": api.ErrShape,
		"select (a.y + 1) from t a": api.ErrType, "select a.x from t a where a.x = 'a'": api.ErrType,
		"select (a.x * 1000000000000) from t a": api.ErrRun,
	} {
		refused(t, x, text, want)
	}
}

func TestAskOfManySources(t *testing.T) {
	x := filled(t, []string{"u k:t,n:i", "'b'|5", "'a'|5", "'b'|null"}, []string{"t x:i", "1", "2"}, []string{"none x:i"})
	asked(t, x, "select b.x, a.n from u a, t b where a.k = 'b'", "1 null < t1 u3; 1 5 < t1 u1; 2 null < t2 u3; 2 5 < t2 u1")
	asked(t, x, "select a.x, b.x, c.x from t a, t b, t c where (a.x < b.x and c.x = 2)", "1 2 2 < t1 t2")
	asked(t, x, "select 7 from t a, none b, t c", "")
	asked(t, x, "select 7 from none a", "")
}

// P5: a row's from has each row once, by the names of tables and then by numbers; deleted rows are gone.
func TestFrom(t *testing.T) {
	rows := sized("t", 11)
	x := filled(t, rows, []string{"a x:i", "11"}, []string{"tt x:i", "11"})
	asked(t, x, "select u.x from tt u, t v, a w where (u.x = v.x and v.x = w.x)", "11 < a1 t11 tt1")
	asked(t, x, "select a.x from t a, t b, t c where ((a.x = b.x and b.x = c.x) and c.x = 3)", "3 < t3")
	asked(t, x, "select count(*) from t a, t b where (a.x + b.x) = 12", "11 < t1 t2 t3 t4 t5 t6 t7 t8 t9 t10 t11")
	asked(t, x, "select count(*) from t a, a b where (a.x > 9 or a.x = 2)", "3 < a1 t2 t10 t11")
	asked(t, x, "select a.x from a a where exists (select b.x from t b)", "11 < a1")
	deleted(t, x, "t", 10, api.OK)
	asked(t, x, "select count(*) from t a where a.x > 8", "2 < t9 t11")
}

// P5: rows with the same values stand in the order of their froms.
func TestOrderOfRows(t *testing.T) {
	x := filled(t,
		[]string{"t x:i,y:t", "2|'b'", "2|'b'", "null|'b'", "10|'b'", "-3|'a'", "2|null", "9|''", "2|'b'", "2|'b'", "2|'b'"},
		[]string{"a x:i", "1", "2"})
	asked(t, x, "select b.x from t b where not b.x = 5", "-3 < t5; 2 < t1; 2 < t2; 2 < t6; 2 < t8; 2 < t9; 2 < t10; 9 < t7; 10 < t4")
	asked(t, x, "select b.y, b.x from t b where not b.x = 2", "'' 9 < t7; 'a' -3 < t5; 'b' 10 < t4")
	asked(t, x, "select b.x, b.y from t b where (b.x > 2 or b.x is null)", "null 'b' < t3; 9 '' < t7; 10 'b' < t4")
	asked(t, x, "select 0 from t b, a c where b.x = 2", "0 < a1 t1; 0 < a1 t2; 0 < a1 t6; 0 < a1 t8; 0 < a1 t9; 0 < a1 t10; 0 < a2 t1; 0 < a2 t2; 0 < a2 t6; 0 < a2 t8; 0 < a2 t9; 0 < a2 t10")
	// Where a from ends, it is ahead: a1 ahead of a1 a2.
	asked(t, x, "select 0 from a b, a c", "0 < a1; 0 < a1 a2; 0 < a1 a2; 0 < a2")
	asked(t, x, "select count(*) from t b group by b.x, b.y", "1 < t3; 1 < t4; 1 < t5; 1 < t6; 1 < t7; 5 < t1 t2 t8 t9 t10")
}

func TestGroups(t *testing.T) {
	x := filled(t, []string{"t x:i,y:t", "1|'a'", "2|'a'", "null|'b'", "4|null", "5|null"}, []string{"none x:i,y:t"})
	asked(t, x, "select a.y, count(*), count(a.x), sum(a.x), min(a.x), max(a.x) from t a group by a.y",
		"null 2 2 9 4 5 < t4 t5; 'a' 2 2 3 1 2 < t1 t2; 'b' 1 0 null null null < t3")
	asked(t, x, "select a.y from t a group by a.y having count(a.x) = 2", "null < t4 t5; 'a' < t1 t2")
	asked(t, x, "select 1 from t a group by a.y having a.y = 'a'", "1 < t1 t2")
	asked(t, x, "select min(a.y), max(a.y), (sum(a.x) - count(*)) from t a", "'a' 'b' 7 < t1 t2 t3 t4 t5")
	asked(t, x, "select a.y, b.y, count(*) from t a, t b where (a.x = 1 and b.x > 1) group by a.y, b.y", "'a' null 2 < t1 t4 t5; 'a' 'a' 1 < t1 t2")
	asked(t, x, "select now, a.y, 'w' from t a group by a.x, a.y having a.x > 3", "0 null 'w' < t4; 0 null 'w' < t5")
	// The values of one group are the same in all columns, not in the text that they make together.
	y := filled(t, []string{"t x:t,y:t", "'a'|'bc'", "'ab'|'c'", "''|'abc'", "null|'x'", "'null'|'x'"})
	asked(t, y, "select a.x, a.y, count(*) from t a group by a.x, a.y", "null 'x' 1 < t4; '' 'abc' 1 < t3; 'a' 'bc' 1 < t1; 'ab' 'c' 1 < t2; 'null' 'x' 1 < t5")
	z := filled(t, []string{"t x:i,y:i", "1|23", "12|3", "1|23", "-1|2", "-12|null"})
	asked(t, z, "select a.x, a.y, count(*) from t a group by a.x, a.y", "-12 null 1 < t5; -1 2 1 < t4; 1 23 2 < t1 t3; 12 3 1 < t2")
}

// P5: without a group by there is one group, even of no combinations; with one there is none then.
func TestGroupsOfNothing(t *testing.T) {
	x := filled(t, []string{"none x:i,y:t"}, []string{"t x:i", "1"})
	for _, from := range []string{"none a", "t b, none a", "t b, t c, none a where a.x = 1"} {
		asked(t, x, "select count(*), count(a.x), sum(a.x), min(a.x), max(a.y), 7, now, null from "+from, "0 0 null null null 7 0 null <")
		asked(t, x, "select 7 from "+from+" having 1 = 1", "7 <")
		asked(t, x, "select 7 from "+from+" having count(*) = 0", "7 <")
		asked(t, x, "select 7 from "+from+" having count(*) > 0", "")
		asked(t, x, "select 7 from "+from+" having sum(a.x) = 0", "")
		asked(t, x, "select 7 from "+from+" having sum(a.x) is null", "7 <")
		asked(t, x, "select 7 from "+from, "")
		asked(t, x, "select a.x from "+from+" group by a.x", "")
		asked(t, x, "select count(*) from "+from+" group by a.x having 1 = 1", "")
	}
}

func TestNullInOperators(t *testing.T) {
	x := filled(t, []string{"t x:i", "null"})
	for _, sign := range []string{"+", "-", "*"} {
		for _, c := range []string{"1 %s null", "null %s 1", "null %s null", "a.x %s 0", "0 %s a.x", "null %s (1 + a.x)"} {
			asked(t, x, "select ("+strings.ReplaceAll(c, "%s", sign)+") from t a", "null < t1")
		}
	}
	for _, sign := range []string{"=", "<", ">"} {
		for _, c := range []string{"1 %s null", "null %s 1", "null %s null", "a.x %s a.x", "'a' %s null", "null %s ''", "(a.x + 1) %s 1"} {
			cond := strings.ReplaceAll(c, "%s", sign)
			asked(t, x, "select 1 from t a where "+cond, "")
			asked(t, x, "select 1 from t a where not "+cond, "")
			if x.Entries() > 50 {
				x = filled(t, []string{"t x:i", "null"})
			}
		}
	}
	asked(t, x, "select 1 from t a where a.x is null", "1 < t1")
	asked(t, x, "select 1 from t a where not null is null", "")
	asked(t, x, "select 1 from t a where not 0 is null", "1 < t1")
	asked(t, x, "select 1 from t a where '' is null", "")
	asked(t, x, "select 1 from t a having null = null", "")
	asked(t, x, "select min(a.x), max(a.x), sum(a.x), count(a.x), count(*), max(null), sum(null), count(null) from t a", "null null null 0 1 null null 0 < t1")
}

func TestTruth(t *testing.T) {
	conds := map[string]string{"f": "1 = 2", "u": "1 = null", "t": "1 = 1"}
	isTrue := map[string]bool{"t and t": true, "t or f": true, "t or u": true, "t or t": true, "f or t": true, "u or t": true}
	isFalse := map[string]bool{"f and f": true, "f and u": true, "f and t": true, "u and f": true, "t and f": true, "f or f": true}
	for _, left := range []string{"f", "u", "t"} {
		for _, right := range []string{"f", "u", "t"} {
			x := few(t)
			for _, joint := range []string{" and ", " or "} {
				cond := "(" + conds[left] + joint + conds[right] + ")"
				told := func(is bool) string {
					if is {
						return "1 < t1; 1 < t2"
					}
					return ""
				}
				asked(t, x, "select 1 from t a where "+cond, told(isTrue[left+joint+right]))
				asked(t, x, "select 1 from t a where not "+cond, told(isFalse[left+joint+right]))
			}
		}
	}
}

func TestComparisons(t *testing.T) {
	x := filled(t, []string{"t x:i", "1"})
	for cond, want := range map[string]bool{
		"1 = 1": true, "1 < 1": false, "1 > 1": false, "1 = 2": false, "1 < 2": true, "1 > 2": false, "2 < 1": false, "2 > 1": true,
		"-2 < -1": true, "10 > 9": true, "-1 < 0": true, "'a' = 'a'": true, "'a' < 'a'": false, "'a' < 'b'": true, "'10' < '9'": true,
		"'' < '0'": true, "'9' < 'a'": true, "'a' < 'aa'": true, "'aa' > 'b'": false, "now = 0": true, "a.x > now": true,
		"(2 - 3) = -1": true, "(2 - -3) = 5": true, "(-4 * 3) = -12": true, "(-4 * -3) = 12": true, "(0 * -3) = 0": true, "(7 + -7) = 0": true,
	} {
		if x.Entries() == api.MaxEntries {
			x = filled(t, []string{"t x:i", "1"})
		}
		told := ""
		if want {
			told = "1 < t1"
		}
		asked(t, x, "select 1 from t a where "+cond, told)
	}
}

func TestExists(t *testing.T) {
	x := filled(t, sized("t", 3), sized("u", 2), []string{"none x:i"})
	asked(t, x, "select a.x from t a where exists (select 1 from u b where b.x = a.x)", "1 < t1; 2 < t2")
	asked(t, x, "select a.x from t a where not exists (select null from u b where b.x = a.x)", "3 < t3")
	asked(t, x, "select a.x from t a where exists (select 1 from none b)", "")
	asked(t, x, "select a.x from t a where exists (select count(*) from none b)", "1 < t1; 2 < t2; 3 < t3")
	asked(t, x, "select a.x from t a where exists (select 1 from u b group by b.x having b.x > a.x)", "1 < t1")
	asked(t, x, "select a.x from t a where exists (select a.x, sum(a.x), count(*) from u b having sum(a.x) > 5)", "3 < t3")
	asked(t, x, "select a.x from t a where exists (select 1 from u b group by a.x having a.x = 2)", "2 < t2")
	asked(t, x, "select sum(a.x), count(*) from t a where exists (select count(*) from u b where b.x < a.x having count(*) = 2)", "3 1 < t3")
	// Two that stand side by side may call their sources the same.
	asked(t, x, "select a.x from t a where (exists (select 1 from u b where b.x = a.x) and exists (select 1 from u b where b.x < a.x))", "2 < t2")
}

func TestExistsWithinExists(t *testing.T) {
	x := filled(t, sized("t", 2), sized("u", 2), []string{"none x:i"})
	const all = "1 < t1; 2 < t2"
	for inner, want := range map[string]string{
		"select c.x from u c":                                  all,
		"select c.x from u c, none d":                          "",
		"select count(*) from none c":                          all,
		"select count(*) from none c group by c.x":             "",
		"select a.x, b.x, c.x from u c group by c.x, b.x, a.x": all,
		"select a.x, b.x, count(*) from none c":                all,
		"select b.x from u c group by a.x":                     all,
	} {
		asked(t, x, "select a.x from t a where exists (select b.x from u b where exists ("+inner+"))", want)
		asked(t, x, "select a.x from t a where exists (select b.x from none b where exists ("+inner+"))", "")
		asked(t, x, "select a.x from t a where exists (select count(*) from none b where exists ("+inner+"))", all)
		refused(t, x, "select a.x from t a where not exists (select b.x from u b where exists ("+inner+"))", api.ErrDeep)
	}
}

func TestNow(t *testing.T) {
	x := few(t)
	asked(t, x, "select now from t a where a.x = 1", "0 < t1")
	x.Tick(api.MaxNumber)
	asked(t, x, "select now, (now - a.x) from t a where now > 5", "1000000000000 999999999998 < t2; 1000000000000 999999999999 < t1")
	refused(t, x, "select (now + a.x) from t a", api.ErrRun)
}
