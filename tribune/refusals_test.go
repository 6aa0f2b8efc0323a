package tribune_test

import (
	"math/rand"
	"strings"
	"testing"

	"tribune/api"
	"tribune/tribune"
)

// pair makes the tables t (x of numbers, y of words) and u (k of words, n of numbers).
func pair(t *testing.T) *tribune.Engine {
	t.Helper()
	return filled(t, []string{"t x:i,y:t", "1|'a'", "2|null"}, []string{"u k:t,n:i", "'b'|5"})
}

func allRefused(t *testing.T, want api.Errno, texts ...string) {
	t.Helper()
	x := pair(t)
	for _, text := range texts {
		refused(t, x, text, want)
	}
}

func allAnswered(t *testing.T, texts ...string) {
	t.Helper()
	for _, text := range texts {
		if _, e := pair(t).Ask("bob", text); e != api.OK {
			t.Errorf("P4: Ask(%q): %d", text, e)
		}
	}
}

func TestAskOfUsers(t *testing.T) {
	x := pair(t)
	for _, user := range []string{"", "A", "aB", "a b", " a", "a ", "'a'", "a-", "é", "a\x00", "123456789", strings.Repeat("a", 100000)} {
		for _, text := range []string{"select a.x from t a", "select", "ever select a.x from t a", "select a.z from t a"} {
			if a, e := x.Ask(user, text); e != api.ErrUser || a.Rows != nil || a.Denied != 0 {
				t.Errorf("P8: Ask of %.20q: %v, %d", user, a, e)
			}
		}
	}
	for i, user := range []string{"a", "0", "select", "null", "z9z9z9z9", "12345678"} {
		if _, e := x.Ask(user, "select a.x from t a"); e != api.OK || x.Entries() != i+1 {
			t.Errorf("P8: Ask of %q: %d, with %d entries", user, e, x.Entries())
		}
	}
}

func TestAskOfTexts(t *testing.T) {
	allRefused(t, api.ErrText,
		"", "select", "select a.x from t", "select a.x from t a;", "select 01 from t a", "select 'A' from t a", "select a.x from sevenls a",
		strings.Repeat(" ", 400)+"select a.x from t a",
		"ever select a.x from t a", "within 5 select a.x from t a", "within -5 select a.x from t a", "ever select a.z from nope a",
		"ever select (((((1 + 1) + 1) + 1) + 1) + 1) from t a", "within 5 select 1 from t a where not not not not 1 = 1",
		"select (((((1 + 1) + 1) + 1) + 1) + 01) from t a",
	)
	allRefused(t, api.ErrDeep,
		"select (((((1 + 1) + 1) + 1) + 1) + 1) from t a", "select (((((1 + 1) + 1) + 1) + 1) + 'a') from nope a",
		"select 1 from t a where not not not not count(*) = 1", "select a.x from t a where exists (select 1 from t a where (1 = 'a' and not 1 = 1))",
	)
}

func TestNames(t *testing.T) {
	allRefused(t, api.ErrName,
		"select 1 from nope a", "select 1 from t a, nope b", "select a.id from log a", "select a.id from touch a", "select 1 from t a, log b",
		"select 1 from t a where exists (select 1 from nope b)", "select 1 from t a where exists (select 1 from log b)",
		"select 1 from t a where exists (select b.x from t b where exists (select 1 from nope c))",
		"select 1 from t a, t b, t c, t d", "select 1 from t a where exists (select 1 from t b, t c, t d, t e)",
		"select 1 from t a, t a", "select 1 from t a, u b, u a", "select 1 from t a where exists (select 1 from t a)",
		"select 1 from t a where exists (select 1 from t b, u a)", "select 1 from t a where exists (select 1 from t b, u b)",
		"select 1 from t a where exists (select b.x from t b where exists (select 1 from u a))",
		"select 1 from t a where exists (select b.x from t b where exists (select 1 from u b))",
		"select b.x from t a", "select t.x from t a", "select a.z from t a", "select a.k from t a", "select a.x from u a",
		"select 1 from t a where b.x = 1", "select 1 from t a where 1 = a.z", "select 1 from t a where a.z is null",
		"select 1 from t a group by a.z", "select 1 from t a group by a.x, b.x", "select 1 from t a having a.z = 1", "select 1 from t a having max(a.z) = 1",
		"select (1 + (1 + a.z)) from t a", "select count(a.z) from t a", "select 1, sum(b.x) from t a",
		"select 1 from t a where (1 = 1 or not 1 < a.z)", "select 1 from t a where exists (select c.x from t b)", "select 1 from t a where exists (select a.k from t b)",
		"select b.x from t a where exists (select 1 from t b)", "select 1 from t a where (exists (select 1 from t b) and b.x = 1)",
		"select 1 from t a where (b.x = 1 and exists (select 1 from t b))", "select 1 from t a where exists (select 1 from t b) group by b.x",
		"select 1 from t a where (exists (select 1 from t b) and exists (select b.x from t c))",
	)
	allAnswered(t,
		"select t.x from t t", "select x.x from t x", "select log.x from t log", "select 1 from t a, t b, t c",
		"select 1 from t a, t b, t c where exists (select 1 from u d, u e, u f)",
		"select 1 from t a where (exists (select 1 from t b) and exists (select 1 from u b))",
		"select 1 from t a where exists (select b.x from t b where exists (select a.x, b.x, c.n from u c))",
		"select a.x, b.n, b.k from t a, u b where exists (select a.y, b.k, c.x from t c where (a.x = c.x and b.n > c.x) group by a.y, b.k, c.x)",
	)
}

func TestShape(t *testing.T) {
	allRefused(t, api.ErrShape,
		"select a.x from t a where count(*) = 1", "select count(*) from t a where 1 = count(a.x)", "select 1 from t a where sum(a.x) is null",
		"select 1 from t a where (1 = 1 or not 1 > min(a.x))", "select 1 from t a where exists (select b.x from t b where max(a.x) = 1)",
		"select 1 from t a where exists (select b.x from t b where max(b.x) = 1)",
		"select count(count(*)) from t a", "select sum(max(a.x)) from t a", "select min((1 + count(*))) from t a", "select max((2 * (1 + sum(a.x)))) from t a",
		"select 1 from t a having count(count(*)) = 1", "select 1 from t a having (1 = 1 and sum(min(a.x)) > 1)",
		"select 1 from t a where exists (select sum(sum(b.x)) from t b)",
		"select 1 from t a having exists (select 1 from t b)", "select 1 from t a having not exists (select 1 from t b)",
		"select 1 from t a having (1 = 1 or exists (select 1 from t b))", "select 1 from t a where exists (select 1 from t b having exists (select 1 from t c))",
		"select a.x, count(*) from t a", "select count(*), a.x from t a", "select (count(*) + a.x) from t a", "select (a.x + (1 + sum(a.x))) from t a",
		"select a.x from t a having 1 = 1", "select a.x from t a group by a.y", "select a.x, a.y from t a group by a.x", "select (a.x + 1) from t a group by a.y",
		"select 1 from t a having a.x = 1", "select 1 from t a having (1 = 1 and not a.x is null)", "select 1 from t a group by a.x having a.y = 'a'",
		"select a.x from t a, t b group by b.x", "select b.x from t a, t b group by a.x", "select count(a.x), (a.x + 1) from t a",
		"select 1 from t a where exists (select b.x, count(*) from t b)", "select 1 from t a where exists (select b.x from t b group by a.x)",
		"select 1 from t a where exists (select 1 from t b having a.x = b.x)",
	)
	allAnswered(t,
		"select a.x from t a group by a.x, a.y", "select (a.x + 1), count(a.y) from t a group by a.y, a.x having a.x > 0", "select (sum((a.x * 2)) + count(*)) from t a",
		"select 1 from t a having (max(a.x) > min(a.x) and count(a.y) = 1)", "select 1 from t a where exists (select a.x, a.y, count(*) from t b)",
		"select 1 from t a where exists (select 1 from t b having a.x = 1)", "select 1 from t a where exists (select max(a.x), sum(b.x) from t b group by a.y)",
		"select count(*) from t a where exists (select b.x from t b where a.x = b.x)", "select a.y from t a where exists (select count(*) from t b) group by a.y",
	)
}

func TestTypes(t *testing.T) {
	allRefused(t, api.ErrType,
		"select ('a' + 1) from t a", "select (1 - 'a') from t a", "select (a.y * a.x) from t a", "select (a.x * a.y) from t a", "select ('' + '') from t a",
		"select (null + 'a') from t a", "select ('a' * null) from t a", "select (1 + (1 + 'a')) from t a", "select (1 + max(a.y)) from t a", "select (min('a') + 1) from t a",
		"select sum(a.y) from t a", "select sum('a') from t a", "select 1, count((1 + 'a')) from t a", "select max((a.y + 1)) from t a", "select sum((a.x + a.y)) from t a",
		"select 1 from t a where a.x = 'a'", "select 1 from t a where 'a' = a.x", "select 1 from t a where a.y < 1", "select 1 from t a where a.x > a.y",
		"select 1 from t a where a.y = now", "select 1 from t a where (a.x + 1) = 'a'", "select 1 from t a where (null + null) = 'a'", "select 1 from t a where ('a' + 1) is null",
		"select 1 from t a where (1 = 1 or not 'a' < 1)", "select 1 from t a having max(a.y) = 1", "select 1 from t a having min(a.x) = 'a'", "select 1 from t a having count(a.y) = 'a'",
		"select 1 from t a having sum(a.x) = max(a.y)", "select 1 from t a having sum(a.y) is null", "select 1 from t a having count(*) > 'a'",
		"select 1 from t a where exists (select ('a' + 1) from t b)", "select 1 from t a where exists (select 1 from t b where a.x = b.y)",
		"select 1 from t a where exists (select 1 from t b having sum(a.y) = 1)", "select 1 from t a, u b where a.x = b.k",
	)
	allAnswered(t,
		"select (null + 1), (null * null), (1 - null), sum(null), min(null), (max(null) + 1), (1 + sum(null)) from t a",
		"select 1 from t a where (null = 'a' or null = 1)", "select 1 from t a where (a.y < null or a.x > null)", "select 1 from t a where null = null",
		"select 1 from t a having (min(null) = 'a' or max(null) = 1)", "select 1 from t a having (min(a.y) < 'a' and max('b') > max(a.y))",
		"select count(a.y), count('a'), min(a.y), max('a') from t a", "select 1 from t a, u b where (a.y = b.k and a.x < b.n)", "select 1 from t a where (a.y is null or a.x is null)",
		"select 1 from t a where now > (a.x * 2)", "select a.y from t a group by a.y, a.x having count(a.y) = a.x",
	)
}

// P4, P8: of several errors the one named first is told, wherever they stand.
func TestWhichErrorIsFirst(t *testing.T) {
	const (
		name  = "1 = b.x"
		shape = "1 = count(*)"
		kind  = "1 = 'a'"
		run   = "1 = (a.x * 1000000000000)"
	)
	for _, c := range []struct {
		left, right string
		want        api.Errno
	}{
		{name, shape, api.ErrName}, {name, kind, api.ErrName}, {name, run, api.ErrName},
		{shape, kind, api.ErrShape}, {shape, run, api.ErrShape}, {kind, run, api.ErrType}, {run, "1 = 1", api.ErrRun},
	} {
		for _, text := range []string{
			"select 1 from t a where (" + c.left + " and " + c.right + ")",
			"select 1 from t a where (" + c.right + " and " + c.left + ")",
			"select 1 from t a where (" + c.left + " and exists (select 1 from u z where " + c.right + "))",
			"select 1 from t a where (" + c.right + " or exists (select 1 from u z where " + c.left + "))",
			"select 1 from t a where (exists (select 1 from u y where " + c.left + ") or exists (select 1 from u z where " + c.right + "))",
		} {
			if _, e := tribune.Print(text); e != api.ErrDeep {
				allRefused(t, c.want, text)
			}
		}
	}
	allRefused(t, api.ErrName, "select (a.y + 1), count(*), a.x, a.z from t a", "select (count(*) + 'a') from t a, t b, t c, t d")
	allRefused(t, api.ErrShape, "select (a.y + 1), count(*), a.x from t a", "select sum(sum(a.y)) from t a", "select (a.x * 1000000000000), count(*) from t a")
	allRefused(t, api.ErrType, "select (a.x * 1000000000000), sum(a.y) from t a group by a.x", "select (1000000000000 + 1), (a.y + 1) from t a")
}

// P6: a number that comes out is within the bounds, or the query is not answered.
func TestNumbersInBounds(t *testing.T) {
	x := filled(t, []string{"t x:i", "1"})
	for expr, want := range map[string]string{
		"(999999999999 + 1)": "1000000000000", "(1000000000000 + 1)": "", "(-999999999999 + -1)": "-1000000000000", "(-1000000000000 + -1)": "",
		"(1000000000000 + -1000000000000)": "0", "(1000000000000 + 1000000000000)": "", "(-1000000000000 - 1)": "", "(-999999999999 - 1)": "-1000000000000",
		"(1000000000000 - -1)": "", "(0 - 1000000000000)": "-1000000000000", "(1000000 * 1000000)": "1000000000000", "(1000000 * -1000000)": "-1000000000000",
		"(1000000 * 1000001)": "", "(-1000001 * 1000000)": "", "(-1000001 * -1000000)": "", "(1000000000000 * 1000000000000)": "", "(-1000000000000 * 1000000000000)": "",
		"(1000000000000 * 0)": "0", "(0 * -1000000000000)": "0", "(1000000000000 * -1)": "-1000000000000", "(3 * 333333333333)": "999999999999", "(3 * 333333333334)": "",
		"(-3 * 333333333334)": "", "(1000000000000 * 18446744)": "", "(4294967296 * 4294967296)": "", "(3037000500 * 3037000500)": "", "(null * (1000000000000 + 1))": "",
		"((1000000000000 + 1) - 1)": "", "((1000000000000 * 2) * 0)": "", "(1000000000000 * null)": "null",
		"sum(1000000000000)": "1000000000000", "count((1000000000000 + 1))": "", "max((-1 - 1000000000000))": "",
	} {
		if want == "" {
			refused(t, x, "select "+expr+" from t a", api.ErrRun)
		} else {
			asked(t, x, "select "+expr+" from t a", want+" < t1")
		}
	}
}

// P6: a sum is worked out as a whole: only what comes out at last counts.
func TestSumAsAWhole(t *testing.T) {
	const most, least = "1000000000000", "-1000000000000"
	x := filled(t, []string{"t x:i", most, most, least, "null"}, []string{"u x:i", most, "1"}, []string{"v x:i", least, least, most, most, most})
	asked(t, x, "select sum(a.x) from t a", "1000000000000 < t1 t2 t3 t4")
	asked(t, x, "select sum(a.x), (sum(a.x) - 1) from v a", "1000000000000 999999999999 < v1 v2 v3 v4 v5")
	refused(t, x, "select sum(a.x) from t a where a.x > 0", api.ErrRun)
	refused(t, x, "select sum(a.x) from u a", api.ErrRun)
	refused(t, x, "select sum(a.x) from v a where a.x < 0", api.ErrRun)
	refused(t, x, "select (sum(a.x) + 1) from t a", api.ErrRun)
	refused(t, x, "select sum((a.x + 1)) from t a", api.ErrRun)
	asked(t, x, "select sum((a.x - 1)) from u a", "999999999999 < u1 u2")
	asked(t, x, "select sum(a.x) from u a group by a.x", "1 < u2; 1000000000000 < u1")
}

// P6: all parts are worked out, and only those.
func TestAllPartsAreWorkedOut(t *testing.T) {
	x := filled(t, []string{"t x:i,y:t", "1|'a'", "2|'b'", "2|null"}, []string{"none x:i"})
	const great = "(a.x * 1000000000000)" // too great, but where x is 1
	for _, text := range []string{
		"select 1 from t a where (1 = 1 or " + great + " = 1)", "select 1 from t a where (" + great + " = 1 or 1 = 1)",
		"select 1 from t a where (1 = 2 and " + great + " = 1)", "select 1 from t a where (" + great + " is null and 1 = 2)",
		"select 1 from t a where (a.x = 1 and " + great + " > 0)", "select 1 from t a where (null = (" + great + " - 1) or 1 = 1)",
		"select 1 from t a where exists (select " + great + " from t b)", "select 1 from t a where exists (select 1, (b.x * 1000000000000) from t b)",
		"select 1 from t a where exists (select 1 from t b where 1 = " + great + ")", "select 1 from t a where (1 = 1 or exists (select " + great + " from t b))",
		"select 1 from t a where exists (select b.x from t b where exists (select c.x from t c)) having sum(" + great + ") = 1",
		"select 1 from t a group by a.x having " + great + " = 1", "select 1 from t a group by a.x having (1 = 2 and " + great + " = 1)",
		"select 1 from t a group by a.x having count(" + great + ") = 5", "select 1 from t a having min(" + great + ") = 5",
		"select count(" + great + ") from t a", "select 1 from t a where exists (select max(" + great + ") from t b)",
		"select (a.x * 1000000000000) from t a group by a.x", "select min(" + great + ") from t a group by a.y having a.y = 'b'",
		"select min(" + great + ") from t a group by a.y having a.y is null", "select 1 from t a where exists (select " + great + ", count(*) from none b)",
		"select (count(*) * 1000000000000) from t a", "select 1 from t a having (1000000000000 * count(*)) > 5",
	} {
		refused(t, x, text, api.ErrRun)
	}
	asked(t, x, "select "+great+" from t a where a.x = 1", "1000000000000 < t1")
	asked(t, x, "select "+great+" from t a group by a.x having a.x = 1", "1000000000000 < t1")
	asked(t, x, "select sum("+great+") from t a group by a.y having a.y = 'a'", "1000000000000 < t1")
	asked(t, x, "select sum("+great+"), (1000000000000 + 1) from t a group by a.x having a.x > 5", "")
	asked(t, x, "select sum("+great+") from t a where a.x = 1 having count("+great+") = 1", "1000000000000 < t1")
	asked(t, x, "select (a.x + 1000000000000) from none a where (a.x + 1000000000000) = (1000000000000 * 2)", "")
	asked(t, x, "select 1 from t a where exists (select (1000000000000 * 2) from none b)", "")
	asked(t, x, "select 1 from t a where exists (select "+great+" from t b where b.x > 5)", "")
	asked(t, x, "select 1 from t a where exists (select "+great+" from t b group by b.x having 1 = 2)", "")
	asked(t, x, "select count((a.x * (1000000000000 * 2))), count(*) from none a", "0 0 <")
	refused(t, x, "select (1000000000000 * 2), count(*) from none a", api.ErrRun)
}

// P6: MaxWork combinations may be, in all queries together, each time that they are asked.
func TestWork(t *testing.T) {
	x := filled(t, sized("p", 20), sized("r", 7), sized("o", 1), []string{"none x:i"})
	counted := func(where string) string { return "select count(*) from p a, p b where " + where + " having 1 = 1" }
	const all = "400 < p1 p2 p3 p4 p5 p6 p7 p8 p9 p10 p11 p12 p13 p14 p15 p16 p17 p18 p19 p20"
	asked(t, x, counted("exists (select 1 from r c, r d)"), all) // 400 + 400 * 49
	refused(t, x, counted("(exists (select 1 from r c, r d) or exists (select 1 from o c))"), api.ErrRun)
	refused(t, x, counted("(exists (select 1 from o c) or exists (select 1 from r c, r d))"), api.ErrRun)
	refused(t, x, counted("(1 = 2 and (exists (select 1 from r c, r d) and exists (select 1 from o c)))"), api.ErrRun)
	refused(t, x, counted("exists (select 1 from r c, r d where exists (select 1 from o e))"), api.ErrRun)
	// Of what there is none there is no work, however much stands beside it.
	asked(t, x, counted("(exists (select 1 from r c, r d) or exists (select 1 from p c, p d, none e))"), all)
	asked(t, x, "select 1 from p a, none b, p c where exists (select 1 from p d, p e, p f)", "")

	// 3 * (1 + 19 * 18 * 19 + 14 * 12) is one too many.
	y := filled(t, sized("t", 3), sized("p", 19), sized("q", 18), sized("r", 14), sized("s", 12))
	const more = "select a.x from t a where (exists (select 1 from p b, q c, p d) and exists (select 1 from r b, s c))"
	refused(t, y, more, api.ErrRun)
	deleted(t, y, "s", 12, api.OK)
	asked(t, y, more, "1 < t1; 2 < t2; 3 < t3")

	// A query in an exists in an exists is asked for each combination of both around it.
	z := filled(t, sized("t", 16), sized("u", 3), sized("p", 20))
	inner := func(sources string) string {
		return "select min(a.x) from t a where exists (select b.x from u b where exists (select 1 from " + sources + "))"
	}
	const touched = "1 < t1 t2 t3 t4 t5 t6 t7 t8 t9 t10 t11 t12 t13 t14 t15 t16"
	asked(t, z, inner("p c, p d"), touched) // 16 * (1 + 3 * 401) = 19264
	refused(t, z, inner("p c, p d, u e"), api.ErrRun)
	inserted(t, z, "t", "0", 17, api.OK)
	refused(t, z, inner("p c, p d"), api.ErrRun) // 17 * (1 + 3 * 401) = 20468
}

func TestManyRows(t *testing.T) {
	x := filled(t, sized("t", 20))
	a, e := x.Ask("bob", "select a.x, b.x, c.x from t a, t b, t c")
	if len(a.Rows) != 8000 || e != api.OK || told(api.Answer{Rows: a.Rows[7999:]}) != "20 20 20 < t20" {
		t.Errorf("P5: %d rows, %d", len(a.Rows), e)
	}
	refused(t, x, "select 1 from t a, t b, t c where exists (select 1 from t d, t e)", api.ErrRun)
}

// P8: there is room for MaxEntries entries; all other errors are told ahead of that.
func TestEntriesFull(t *testing.T) {
	x := few(t)
	for i := range api.MaxEntries {
		if x.Entries() != i {
			t.Errorf("P10: %d entries, want %d", x.Entries(), i)
		}
		asked(t, x, "select count(*) from t a", "2 < t1 t2")
	}
	for range 2 {
		refused(t, x, "select count(*) from t a", api.ErrFull)
		refused(t, x, "select a.x from t a where 1 = 2", api.ErrFull)
		refused(t, x, "select (a.x * 1000000000000) from t a", api.ErrRun)
		refused(t, x, "select (a.y + 1) from t a", api.ErrType)
		refused(t, x, "select a.x, count(*) from t a", api.ErrShape)
		refused(t, x, "select a.z from t a", api.ErrName)
		refused(t, x, "select (((((1 + 1) + 1) + 1) + 1) + 1) from t a", api.ErrDeep)
		refused(t, x, "ever select 1 from t a", api.ErrText)
	}
	if _, e := x.Ask("B", "select count(*) from t a"); e != api.ErrUser || x.Entries() != api.MaxEntries {
		t.Errorf("P8: %d, with %d entries", e, x.Entries())
	}
	if y := tribune.New(); y.Entries() != 0 {
		t.Errorf("P7: a new engine has %d entries", y.Entries())
	}
}

// P1: queries made by the grammar, right ones and wrong ones, are answered or refused.
func TestAskOfAnyText(t *testing.T) {
	w := &writer{Rand: rand.New(rand.NewSource(4))}
	counts := map[api.Errno]int{}
	x := filled(t, []string{"a x:i,a:t", "1|'a'"}, []string{"b i:t,b:i", "null|2"})
	for range 20000 {
		w.text()
		if w.Intn(5) == 0 {
			w.spoil()
		}
		a, e := x.Ask("bob", w.loose())
		if e != api.OK && (a.Rows != nil || a.Denied != 0) {
			t.Errorf("P1: %v beside %d", a, e)
		}
		counts[e]++
	}
	if counts[api.ErrName] < 500 || counts[api.ErrUser]+counts[api.ErrNone]+counts[api.ErrDenied] > 0 || x.Entries() != counts[api.OK] {
		t.Errorf("P8: %v, with %d entries", counts, x.Entries())
	}
}
