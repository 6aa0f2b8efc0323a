package tribune_test

import (
	"strings"
	"testing"

	"tribune/api"
	"tribune/tribune"
)

func printed(t *testing.T, text, want string, errno api.Errno) {
	t.Helper()
	if got, e := tribune.Print(text); got != want || e != errno {
		t.Errorf("P3: Print(%q) = %q, %d, want %q, %d", text, got, e, want, errno)
	}
}

func TestPrintWritesTokens(t *testing.T) {
	for text, want := range map[string]string{
		"select  a.x,( a.y+ -3 ) from t a":                               "select a.x, (a.y + -3) from t a",
		"select count( * ) from t a where(a.x=1 and not a.y is null)":    "select count(*) from t a where (a.x = 1 and not a.y is null)",
		"select (1 - 2) from t a":                                        "select (1 - 2) from t a",
		"select (1 -2) from t a":                                         "select (1 - 2) from t a",
		"select(1-2)from t a":                                            "select (1 - 2) from t a",
		"select1from t a":                                                "select 1 from t a",
		"select'a'from t a":                                              "select 'a' from t a",
		"select-1,-1,(-1--1)from t a":                                    "select -1, -1, (-1 - -1) from t a",
		"select (a.x-1), (count(*)-1), ('a'-1) from t a":                 "select (a.x - 1), (count(*) - 1), ('a' - 1) from t a",
		"select (now- 1), (null- 1) from t a":                            "select (now - 1), (null - 1) from t a",
		"select (1*-1), (1+-1) from t a where-1<-1":                      "select (1 * -1), (1 + -1) from t a where -1 < -1",
		"select count ( a.x ), sum ( 1 ), min ( 1 ), max ( 1 ) from t a": "select count(a.x), sum(1), min(1), max(1) from t a",
		"select a . x from t a , u b , log c group by a . x , b . y":     "select a.x from t a, u b, log c group by a.x, b.y",
		"select 1 from t a where exists(select 1 from t a)":              "select 1 from t a where exists (select 1 from t a)",
		"select 1 from t a where not(1=1 or 1>1)having 1 is null":        "select 1 from t a where not (1 = 1 or 1 > 1) having 1 is null",
		"ever select 1 from touch x":                                     "ever select 1 from touch x",
		"within 1000000000000select 1 from t a":                          "within 1000000000000 select 1 from t a",
		"within-1select 1 from t a":                                      "within -1 select 1 from t a",
		"select 1 from x y, x y, x y, x y, x y":                          "select 1 from x y, x y, x y, x y, x y",
	} {
		printed(t, text, want, api.OK)
		printed(t, want, want, api.OK)
	}
}

func TestPrintRefusesTexts(t *testing.T) {
	for _, text := range []string{
		"", " ", "select a.x from t", "select a.x from t a where a.x", "select a.x from t a;",
		"select (now -1) from t a", "select (null -1) from t a", "select (1 + - 1) from t a",
		"select 1\tfrom t a", "select 1 from t a\x00", "Select 1 from t a", "select 1 from té a",
		"select 1 from t a where 1 <= 1", "select 1 from t a where 1 <> 1", "select a.x1 from t a",
		"within 1.5 select 1 from t a", "within (1 + 1) select 1 from t a", "within -0 select 1 from t a", "within 01 select 1 from t a",
		"within 1000000000001 select 1 from t a", "select 1 from t a where exists (within 1 select 1 from t b)",
	} {
		printed(t, text, "", api.ErrText)
	}
}

func TestPrintBounds(t *testing.T) {
	for piece, errno := range map[string]api.Errno{
		"0": api.OK, "00": api.ErrText, "01": api.ErrText, "-0": api.ErrText, "-01": api.ErrText, "10": api.OK, "-10": api.OK,
		"1000000000000": api.OK, "-1000000000000": api.OK, "1000000000001": api.ErrText, "-1000000000001": api.ErrText,
		"9223372036854775808": api.ErrText, "18446744073709551617": api.ErrText, strings.Repeat("1", 300): api.ErrText,
		"''": api.OK, "'z9z9z9z9'": api.OK, "'z9z9z9z9z'": api.ErrText, "'Z'": api.ErrText, "' '": api.ErrText, "'-'": api.ErrText, "'é'": api.ErrText,
		"a.x": api.OK, "sixlet.sixlet": api.OK, "sevenls.x": api.ErrText, "a.sevenls": api.ErrText, "a.select": api.ErrText, "ever.x": api.ErrText,
	} {
		text := "select " + piece + " from t a"
		if errno == api.OK {
			printed(t, text, text, api.OK)
		} else {
			printed(t, text, "", errno)
		}
	}
	printed(t, "select 1 from sixlet sixlet", "select 1 from sixlet sixlet", api.OK)
	printed(t, "select 1 from sevenls a", "", api.ErrText)
	printed(t, "select 1 from t sevenls", "", api.ErrText)
}

func TestPrintLength(t *testing.T) {
	query := "select 1 from t a"
	room := strings.Repeat(" ", api.MaxText-len(query))
	printed(t, query+room, query, api.OK)
	printed(t, room+query, query, api.OK)
	printed(t, query+room+" ", "", api.ErrText)
	printed(t, strings.Repeat(query, 100000), "", api.ErrText)

	// What is written may be longer than what may be read.
	tight := "select 1" + strings.Repeat(",1", 191) + " from t a"
	printed(t, tight, "select 1"+strings.Repeat(", 1", 191)+" from t a", api.OK)
}

func TestPrintDepth(t *testing.T) {
	sums := func(n int) string { return strings.Repeat("(", n) + "1" + strings.Repeat(" + 1)", n) }
	ands := func(n int) string { return strings.Repeat("(", n) + "1 = 1" + strings.Repeat(" and 1 = 1)", n) }
	nots := func(n int) string { return strings.Repeat("not ", n) + "1 = 1" }
	for _, c := range []struct{ ok, deep string }{
		{"select " + sums(4) + " from t a", "select " + sums(5) + " from t a"},
		{"select 1, count(" + sums(3) + ") from t a", "select 1, count(" + sums(4) + ") from t a"},
		{"select 1 from t a where " + sums(3) + " is null", "select 1 from t a where " + sums(4) + " is null"},
		{"select 1 from t a where 1 < " + sums(3), "select 1 from t a where 1 < " + sums(4)},
		{"select 1 from t a where " + ands(3), "select 1 from t a where " + ands(4)},
		{"select 1 from t a having " + nots(3), "select 1 from t a having " + nots(4)},
		{"select 1 from t a where not exists (select 1 from t b having 1 = 1)", "select 1 from t a where not exists (select 1 from t b having not 1 = 1)"},
		{"select 1 from t a where not exists (select count(1) from t b)", "select 1 from t a where not exists (select count((1 + 1)) from t b)"},
		{"within 1 select " + sums(4) + " from t a", "within 1 select " + sums(5) + " from t a"},
		{"ever select 1 from t a where " + nots(3), "ever select 1 from t a where " + nots(40)},
		{"select 1 from t a group by a.x, a.y", "select " + sums(50) + " from t a"},
	} {
		printed(t, c.ok, c.ok, api.OK)
		printed(t, c.deep, "", api.ErrDeep)
		printed(t, c.deep+")", "", api.ErrText)
		printed(t, c.deep+" 01", "", api.ErrText)
	}
}
