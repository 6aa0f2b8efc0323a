package tribune_test

import (
	"math"
	"strconv"
	"strings"
	"testing"

	"tribune/api"
	"tribune/tribune"
)

func added(t *testing.T, x *tribune.Engine, policy string, number int, want api.Errno) {
	t.Helper()
	if n, e := x.Add(policy); n != number || e != want {
		t.Errorf("P9: Add(%.100q) = %d, %d, want %d, %d", policy, n, e, number, want)
	}
}

func dropped(t *testing.T, x *tribune.Engine, n int, want api.Errno) {
	t.Helper()
	if e := x.Drop(n); e != want {
		t.Errorf("P9: Drop(%d) = %d, want %d", n, e, want)
	}
}

// denied asks for what the policy with the number denies.
func denied(t *testing.T, x *tribune.Engine, user, text string, by int) {
	t.Helper()
	entries, kept := x.Entries(), x.Kept()
	a, e := x.Ask(user, text)
	if e != api.ErrDenied || a.Denied != by || a.Rows != nil {
		t.Errorf("P8: Ask(%s, %q) = %q, %d, %d, want it denied by %d", user, text, told(a), a.Denied, e, by)
	}
	if x.Entries() != entries || x.Kept() != kept {
		t.Errorf("P8: Ask(%s, %q) is denied, and written: %d of %d entries, then %d of %d", user, text, kept, entries, x.Kept(), x.Entries())
	}
}

// granted asks for what no policy denies.
func granted(t *testing.T, x *tribune.Engine, user, text string) {
	t.Helper()
	entries := x.Entries()
	if a, e := x.Ask(user, text); e != api.OK || a.Denied != 0 || x.Entries() != entries+1 {
		t.Errorf("P8: Ask(%s, %q) = %q, %d, %d, with %d entries, then %d", user, text, told(a), a.Denied, e, entries, x.Entries())
	}
}

// kept tells how many entries are kept: the document lets Compact throw away more than it does here.
func kept(t *testing.T, x *tribune.Engine, kept, entries int) {
	t.Helper()
	if x.Kept() != kept || x.Entries() != entries {
		t.Errorf("P10: %d of %d entries are kept, want %d of %d", x.Kept(), x.Entries(), kept, entries)
	}
}

const (
	one  = "select a.x from t a where a.x = 1" // touches t 1
	two  = "select a.x from t a where a.x = 2" // touches t 2
	both = "select a.x from t a"               // touches t 1 and t 2
	none = "select a.x from t a where a.x > 2" // touches nothing
)

func TestPoliciesOfExamples(t *testing.T) {
	x := few(t)
	added(t, x, "within 10 select count(*) from log q where q.user = 'bob' having count(*) > 2", 1, api.OK)
	granted(t, x, "bob", one)
	granted(t, x, "bob", one)
	denied(t, x, "bob", one, 1)
	x.Tick(10)
	granted(t, x, "bob", one)
	x.Compact()
	kept(t, x, 1, 3)

	x = few(t)
	added(t, x, "ever select x.row from touch x where (x.tab = 't' and x.row = 2)", 1, api.OK)
	denied(t, x, "bob", both, 1)
	denied(t, x, "ann", two, 1)
	denied(t, x, "ann", "select count(*) from t a", 1)
	denied(t, x, "ann", "select a.x from t a, t b where (a.x = 1 and b.x = 2)", 1)
	granted(t, x, "bob", one)
	granted(t, x, "bob", none)
}

// P9: each error of Add; nothing is added, and no number given.
func TestAddRefuses(t *testing.T) {
	const deep = "select (((((1 + 1) + 1) + 1) + 1) + 1) from t a"
	x := pair(t)
	for want, texts := range map[api.Errno][]string{
		api.ErrText: {
			"", " ", "ever", "within", "within 5", "within select 1 from t a", "within a select 1 from t a", "within null select 1 from t a", "within '5' select 1 from t a",
			"within now select 1 from t a", "within (1 + 1) select 1 from t a", "within 5 5 select 1 from t a", "within 5 ever select 1 from t a", "ever ever select 1 from t a",
			"ever 5 select 1 from t a", "ever select 1 from t", "ever select 1 from t a;", "EVER select 1 from t a", "within 05 select 1 from t a", "within -0 select 1 from t a",
			"within 1000000000001 select 1 from t a", "within -1000000000001 select 1 from t a", "within - 5 select 1 from t a", "within5 select 1 from t a, t",
			"select 1 from t a", "select a.id from log a", "select a.z from nope a", "select count(*) from log q", deep, "select 1 from t a where not not not not not 1 = 1",
			"within -1 select 1 from t a", "within -1000000000000 select a.id from log a", "within -1 select a.z from nope a", "within -1 select count(count(*)) from t a", "within -1 select ('a' + 1) from t a",
			"ever select 'A' from t a", "ever select 'ninechars' from t a", "ever select 1 from sevenls a", "ever select 01 from t a", "ever select 1000000000001 from t a",
			"ever select 1 from t a" + strings.Repeat(" ", 379), strings.Repeat("ever ", 100000), "within " + strings.Repeat("1", 300) + " select 1 from t a",
		},
		api.ErrDeep: {
			"ever " + deep, "within 5 " + deep, "within -1 " + deep, "ever select (((((1 + 1) + 1) + 1) + 1) + 'a') from nope a", "ever select 1 from log q where not not not not q.id = 1",
		},
		api.ErrName: {
			"ever select 1 from nope a", "ever select a.x from log a", "ever select a.row from log a", "ever select a.user from touch a", "ever select a.id from t a", "within 0 select log.id from log q",
			"ever select 1 from log q, log q", "ever select 1 from log a, log b, touch c, touch d", "ever select 1 from log q where exists (select 1 from touch q)",
			"ever select a.z, count(*) from log a", "ever select (a.z + 'a') from log a", "ever select 1 from log q where exists (select z.user from touch z)", "ever select 1 from logs a",
		},
		api.ErrShape: {
			"ever select q.user, count(*) from log q", "within 5 select 1 from log q where count(*) = 1", "ever select sum(count(*)) from touch z", "ever select 1 from log q having exists (select 1 from touch z)",
			"ever select q.user, (q.user + 1), count(*) from log q", "ever select z.row from touch z group by z.tab", "ever select 1 from log q having q.id = 'a'",
		},
		api.ErrType: {
			"ever select (q.user + 1) from log q", "ever select sum(z.tab) from touch z", "ever select 1 from log q where q.user = 1", "ever select 1 from log q where q.time = 'a'",
			"ever select 1 from log q where q.id < ''", "ever select 1 from touch z where z.tab > z.row", "ever select 1 from touch z where z.id = 'a'", "within 5 select 1 from log q, touch z where q.user = z.id",
			"ever select 1 from log q, t a where q.user = a.x", "ever select 1 from touch z where (z.row * 1000000000000) = z.tab",
		},
	} {
		for _, text := range texts {
			added(t, x, text, 0, want)
		}
	}
	added(t, x, "ever select q.user, z.tab from log q, touch z, t a where ((q.id = z.id and a.y = z.tab) and (a.x = z.row and q.user = 'nobody')) group by q.user, z.tab having max(q.time) > now", 1, api.OK)
	granted(t, x, "bob", both)
	// At MaxPolicies every other error is told ahead of ErrFull.
	for n := 2; n <= api.MaxPolicies; n++ {
		added(t, x, "within "+strconv.Itoa(n)+" select 1 from log q where 1 = 2", n, api.OK)
	}
	added(t, x, "ever select 1 from log q", 0, api.ErrFull)
	added(t, x, "select 1 from t a", 0, api.ErrText)
	added(t, x, "within -1 select 1 from t a", 0, api.ErrText)
	added(t, x, "ever "+deep, 0, api.ErrDeep)
	added(t, x, "ever select 1 from nope a", 0, api.ErrName)
	added(t, x, "ever select q.id, count(*) from log q", 0, api.ErrShape)
	added(t, x, "ever select (q.user + 1) from log q", 0, api.ErrType)
	granted(t, x, "bob", both)
}

// P9: a table that comes later is none yet when a policy is added.
func TestAddOfTables(t *testing.T) {
	x := tribune.New()
	added(t, x, "ever select 1 from t a", 0, api.ErrName)
	created(t, x, "t", "x:i", api.OK)
	added(t, x, "ever select 1 from t a where a.x = 5", 1, api.OK)
	created(t, x, "u", "x:i,z:i", api.OK)
	added(t, x, "ever select 1 from log q, u b, t a where (b.z = a.x and q.time = b.x)", 2, api.OK)
	granted(t, x, "bob", "select 1 from t a")
	inserted(t, x, "u", "9|4", 1, api.OK)
	inserted(t, x, "t", "4", 1, api.OK)
	granted(t, x, "bob", "select 1 from t a")
	x.Tick(9)
	denied(t, x, "bob", "select 1 from t a", 2)
	deleted(t, x, "u", 1, api.OK)
	granted(t, x, "bob", "select 1 from t a")
	inserted(t, x, "t", "5", 2, api.OK)
	denied(t, x, "bob", "select 1 from u a", 1)
	deleted(t, x, "t", 2, api.OK)
	granted(t, x, "bob", "select 1 from u a")
}

// P9: numbers of policies are never given twice, whatever is dropped or refused.
func TestNumbersOfPolicies(t *testing.T) {
	const idle = "ever select q.id from log q where q.user = 'nobody'"
	x := few(t)
	for _, n := range []int{0, 1, -1, 6, math.MaxInt, math.MinInt} {
		dropped(t, x, n, api.ErrNone)
	}
	for n := 1; n <= api.MaxPolicies; n++ {
		added(t, x, idle, n, api.OK)
	}
	added(t, x, idle, 0, api.ErrFull)
	for _, n := range []int{0, 7, -1, math.MaxInt, math.MinInt} {
		dropped(t, x, n, api.ErrNone)
	}
	dropped(t, x, 6, api.OK)
	dropped(t, x, 6, api.ErrNone)
	added(t, x, idle, 7, api.OK)
	added(t, x, idle, 0, api.ErrFull)
	for n := range 5 {
		dropped(t, x, n+1, api.OK)
	}
	dropped(t, x, 7, api.OK)
	dropped(t, x, 7, api.ErrNone)
	added(t, x, "ever select q.nope from log q", 0, api.ErrName)
	added(t, x, idle, 8, api.OK)
	x.Compact()
	added(t, x, idle, 9, api.OK)
	dropped(t, x, 8, api.OK)
	dropped(t, x, 9, api.OK)
	added(t, x, idle, 10, api.OK)
}

// P8: of several policies that find something the first is told.
func TestWhichPolicyIsTold(t *testing.T) {
	x := few(t)
	added(t, x, "ever select z.id from touch z where z.row = 2", 1, api.OK)
	added(t, x, "ever select q.id from log q where q.user = 'eve'", 2, api.OK)
	added(t, x, "ever select z.id from touch z where z.row = 1", 3, api.OK)
	denied(t, x, "eve", both, 1)
	denied(t, x, "bob", both, 1)
	denied(t, x, "bob", two, 1)
	denied(t, x, "eve", one, 2)
	denied(t, x, "eve", none, 2)
	denied(t, x, "bob", one, 3)
	granted(t, x, "bob", none)
	added(t, x, "ever select z.id from touch z where z.row = 2", 4, api.OK)
	dropped(t, x, 1, api.OK)
	denied(t, x, "eve", both, 2)
	denied(t, x, "bob", both, 3)
	denied(t, x, "bob", two, 4)
	dropped(t, x, 2, api.OK)
	added(t, x, "ever select q.id from log q where q.user = 'eve'", 5, api.OK)
	denied(t, x, "eve", both, 3)
	denied(t, x, "eve", none, 5)
	granted(t, x, "bob", none)
}

// P9: what a policy finds, if bob asks for row 1 of t at the time 3, and eve for row 2 at 7.
func TestWhatIsFound(t *testing.T) {
	const never, atFirst, then = 0, 1, 2
	for when, queries := range [][]string{
		never: {
			"select q.id from log q where 1 = 2", "select q.id from log q where null = 1", "select q.id from log q where q.id > 2", "select q.id from log q where q.id < 1",
			"select 1 from log q where (q.id = 1 and q.user = 'eve')", "select 1 from log q where (q.id = 2 and q.time < now)", "select 1 from log q where q.time > now",
			"select 1 from log q having count(*) > 2", "select 1 from touch z having count(*) > 2", "select 1 from touch z where z.tab = 'none'",
			"select 1 from touch z where (z.id = 1 and z.row = 2)", "select 1 from touch z where (z.id = 2 and z.row = 1)",
			"select q.user from log q, touch z where (q.id = z.id and (q.user = 'bob' and z.row = 2))", "select q.user from log q group by q.user having count(*) > 1",
			"select count(*) from log q where q.user = 'nobody' group by q.user", "select 1 from none a", "select 1 from t a where a.x > 2", "select 1 from log q, none a",
			"select 1 from touch z, touch y where (z.row = y.row and not z.id = y.id)",
			// Numbers at the edge of their bounds.
			"select 1 from log q where (q.id * 500000000000) = 1", "select 1 from log q having sum((q.time * 100000000000)) = 1", "select 1 from none a where (a.x * 1000000000000) = 2",
		},
		atFirst: {
			"select q.id from log q", "select null from log q", "select 1 from log q where (q.id = 1 and q.user = 'bob')", "select 1 from log q where (q.id = 1 and q.time = 3)",
			"select 1 from log q where q.time = now", "select 1 from log q having count(*) < 2", "select 1 from touch z where ((z.id = 1 and z.row = 1) and z.tab = 't')",
			"select count(*) from log q", "select count(*) from log q where q.user = 'nobody'", "select count(*) from none a", "select 1 from t a", "select 1 from log q, t a where q.id = a.x",
			"select a.x from t a where not exists (select 1 from touch z where z.row = a.x)", "select a.x from t a where exists (select 1 from log q where q.user = 'bob')",
			"select (999999999999 + 2) from t a", "select 1 from log q where (1 = 2 and (q.id + 1000000000000) = 1)",
		},
		then: {
			"select q.id from log q where q.id > 1", "select 1 from log q where (q.id = 2 and q.user = 'eve')", "select 1 from log q where (q.id = 2 and q.time = 7)",
			"select 1 from log q having count(*) = 2", "select 1 from touch z having count(*) = 2", "select 1 from touch z where z.tab = 't' having count(*) = 2",
			"select 1 from log q, log p having count(*) = 4", "select 1 from log q having (min(q.id) = 1 and max(q.id) = 2)", "select 1 from log q where q.time < now",
			"select 1 from touch z where (z.id = 2 and z.row = 2)", "select q.user from log q, touch z where (q.id = z.id and (q.user = 'eve' and z.row = 2))",
			"select z.tab from touch z group by z.tab having count(*) > 1", "select null from log q, t a where ((q.id = 2 and a.x = 2) and a.y is null)",
			"select a.x from t a where exists (select 1 from touch z where z.row > a.x)", "select 1 from t a where now = 7",
			// Numbers out of their bounds.
			"select 1 from log q where (1 = 2 and (q.id * 1000000000000) = 1)", "select 1 from log q where (1 = 2 and exists (select (z.row + 999999999999) from touch z))",
			"select 1 from log q having sum((q.time * 100000000001)) = 1", "select 1 from log q group by q.id having (q.id * 1000000000000) is null",
		},
	} {
		for _, query := range queries {
			for _, form := range []string{"ever ", "within 5 ", "within 1000000000000 "} {
				x := filled(t, []string{"t x:i,y:t", "1|'a'", "2|null"}, []string{"none x:i"})
				x.Tick(3)
				added(t, x, form+query, 1, api.OK)
				if when == atFirst {
					denied(t, x, "bob", one, 1)
					continue
				}
				granted(t, x, "bob", one)
				x.Tick(7)
				if when == then {
					denied(t, x, "eve", two, 1)
				} else {
					granted(t, x, "eve", two)
				}
			}
		}
	}
}

// P9: a policy whose work is too much finds something; what it does not see is no work.
func TestWorkOfPolicies(t *testing.T) {
	// With all of t, an entry touches 20 rows: two of them make 40 * 40 * 12 = 19200 combinations, three of them 43200.
	x := filled(t, sized("t", 20), sized("u", 12))
	added(t, x, "ever select 1 from touch y, touch z, u a where 1 = 2", 1, api.OK)
	granted(t, x, "bob", "select a.x from t a")
	granted(t, x, "bob", "select a.x from t a")
	denied(t, x, "bob", "select a.x from t a", 1)
	denied(t, x, "bob", "select a.x from t a where a.x = 1", 1) // 41 * 41 * 12
	granted(t, x, "bob", "select a.x from t a where a.x > 20")
	added(t, x, "ever select 1 from touch y, touch z, u a where 1 = 2", 2, api.OK)
	dropped(t, x, 1, api.OK)
	granted(t, x, "bob", "select a.x from t a")
	x.Compact()
	granted(t, x, "bob", "select a.x from t a")
	x.Compact()
	denied(t, x, "bob", "select a.x from t a", 2)

	// 20 * 20 * 50 is just MaxWork.
	y := filled(t, sized("t", 20))
	added(t, y, "ever select 1 from t a, t b, touch z where 1 = 2", 1, api.OK)
	granted(t, y, "bob", "select a.x from t a")
	granted(t, y, "bob", "select a.x from t a")
	granted(t, y, "bob", "select a.x from t a where a.x < 11")
	denied(t, y, "bob", "select a.x from t a where a.x = 7", 1)
	granted(t, y, "bob", "select a.x from t a where a.x = 77")
}

// P9: of more rows of the log than any table has, no work is done in vain.
func TestWorkOfManyTouches(t *testing.T) {
	x := filled(t, sized("t", 20), sized("u", 20), sized("v", 20), []string{"none x:i"})
	added(t, x, "ever select count(*) from touch x, touch y, none z having count(*) > 0", 1, api.OK)
	added(t, x, "ever select x.id from touch x where (x.id = 60 and x.row = 20)", 2, api.OK)
	for range api.MaxEntries - 1 {
		granted(t, x, "bob", "select count(*) from t a, u b, v c where (a.x = b.x and b.x = c.x)")
	}
	added(t, x, "ever select 1 from touch x, touch y, touch z where 1 = 2", 3, api.OK)
	denied(t, x, "bob", "select a.x from t a", 2)
	dropped(t, x, 2, api.OK)
	granted(t, x, "bob", "select a.x from t a")
	kept(t, x, 60, 60)
	refused(t, x, "select a.x from t a", api.ErrFull)
}

// P9: what was written ahead of a policy it does not see, not even what was written at the same time.
func TestEntriesAheadOfAPolicy(t *testing.T) {
	for _, form := range []string{"ever ", "within 1 ", "within 1000000000000 "} {
		x := few(t)
		granted(t, x, "bob", both)
		granted(t, x, "bob", both)
		added(t, x, form+"select q.id from log q where q.id < 3", 1, api.OK)
		added(t, x, form+"select 1 from log q having count(*) > 2", 2, api.OK)
		added(t, x, form+"select z.row from touch z where (z.id < 3 or z.row = 2)", 3, api.OK)
		granted(t, x, "bob", one)
		granted(t, x, "bob", none)
		denied(t, x, "bob", none, 2)
		denied(t, x, "bob", both, 2)
		dropped(t, x, 2, api.OK)
		denied(t, x, "bob", both, 3)
		// A policy that is added again does not see what it saw ahead of that.
		added(t, x, form+"select 1 from log q having count(*) > 2", 4, api.OK)
		granted(t, x, "bob", one)
		granted(t, x, "bob", one)
		denied(t, x, "bob", one, 4)
	}
}

// P9: the edges of what a within sees.
func TestWindow(t *testing.T) {
	for span, times := range map[string][]struct {
		time   int
		denied bool
	}{
		"0":             {{5, false}, {5, false}, {6, false}},
		"1":             {{5, true}, {6, false}, {6, true}, {7, false}},
		"2":             {{5, true}, {6, true}, {7, false}, {8, true}, {9, false}},
		"10":            {{5, true}, {14, true}, {15, false}, {15, true}, {24, true}, {25, false}},
		"1000000000000": {{5, true}, {1000000000000, true}, {1000000000000, true}},
	} {
		x := few(t)
		x.Tick(5)
		added(t, x, "within "+span+" select 1 from log q, log p where q.id > p.id", 1, api.OK)
		granted(t, x, "bob", one)
		for _, at := range times {
			x.Tick(at.time)
			if at.denied {
				denied(t, x, "bob", one, 1)
			} else {
				granted(t, x, "bob", one)
			}
		}
	}
	// The clock can't go as far as an entry at the time 0 is out of sight of the widest within, but just to that.
	x := few(t)
	added(t, x, "within 1000000000000 select 1 from log q having count(*) > 1", 1, api.OK)
	granted(t, x, "bob", one)
	x.Tick(999999999999)
	denied(t, x, "bob", one, 1)
	x.Tick(1000000000000)
	granted(t, x, "bob", one)
	denied(t, x, "bob", one, 1)
}

// P9: touches are seen with their entries.
func TestWindowOfTouches(t *testing.T) {
	x := few(t)
	added(t, x, "within 5 select z.row from touch z group by z.row having count(*) > 1", 1, api.OK)
	added(t, x, "ever select z.row from touch z group by z.row having count(*) > 2", 2, api.OK)
	granted(t, x, "bob", one)
	x.Tick(3)
	denied(t, x, "ann", one, 1)
	granted(t, x, "ann", two)
	x.Tick(5)
	denied(t, x, "ann", both, 1)
	granted(t, x, "ann", one)
	x.Tick(8)
	granted(t, x, "bob", two)
	x.Tick(99)
	denied(t, x, "bob", two, 2)
	denied(t, x, "bob", one, 2)
	granted(t, x, "bob", none)
}

// P9: a policy that sees nothing may still find something.
func TestPoliciesThatSeeNothing(t *testing.T) {
	x := few(t)
	added(t, x, "within 0 select q.id from log q", 1, api.OK)
	added(t, x, "within 0 select 1 from touch z having count(*) > 0", 2, api.OK)
	granted(t, x, "bob", both)
	added(t, x, "within 0 select 1 from log q having count(*) = 0", 3, api.OK)
	denied(t, x, "bob", both, 3)
	dropped(t, x, 3, api.OK)
	added(t, x, "within 0 select 1 from t a where not exists (select 1 from log q)", 4, api.OK)
	denied(t, x, "bob", both, 4)
}

// P8: what is denied is not written: its number is given to the next one, and no policy sees it.
func TestDeniedIsNotWritten(t *testing.T) {
	x := few(t)
	added(t, x, "ever select q.id from log q where q.user = 'eve'", 1, api.OK)
	added(t, x, "ever select 1 from log q having count(*) > 3", 2, api.OK)
	added(t, x, "ever select 1 from touch z where z.row = 2 having count(*) > 1", 3, api.OK)
	added(t, x, "ever select q.id from log q where q.id > 4", 4, api.OK)
	for range 2 {
		denied(t, x, "eve", both, 1)
		granted(t, x, "bob", one)
		denied(t, x, "eve", two, 1)
	}
	granted(t, x, "bob", two)
	denied(t, x, "bob", none, 2)
	denied(t, x, "eve", none, 1)
	dropped(t, x, 2, api.OK)
	denied(t, x, "bob", two, 3)
	granted(t, x, "bob", none)
	denied(t, x, "bob", none, 4)
	kept(t, x, 4, 4)
}

// P8: every other error is told ahead of ErrDenied.
func TestErrorsAheadOfDenied(t *testing.T) {
	x := few(t)
	added(t, x, "ever select 1 from t a", 1, api.OK)
	denied(t, x, "bob", both, 1)
	if a, e := x.Ask("", both); e != api.ErrUser || a.Rows != nil || a.Denied != 0 {
		t.Errorf("P8: Ask of nobody: %v, %d", a, e)
	}
	for text, want := range map[string]api.Errno{
		"ever select 1 from t a": api.ErrText, "select (((((1 + 1) + 1) + 1) + 1) + 1) from t a": api.ErrDeep, "select q.id from log q": api.ErrName,
		"select count(*), a.x from t a": api.ErrShape, "select (a.y + 1) from t a": api.ErrType, "select (a.x * 1000000000000) from t a": api.ErrRun,
	} {
		refused(t, x, text, want)
	}
	y := few(t)
	for range api.MaxEntries {
		granted(t, y, "bob", one)
	}
	added(t, y, "ever select 1 from t a", 1, api.OK)
	refused(t, y, both, api.ErrFull)
	y.Tick(9)
	y.Compact()
	kept(t, y, 0, api.MaxEntries)
	refused(t, y, both, api.ErrFull) // what is thrown away is still an entry
	dropped(t, y, 1, api.OK)
	y.Compact()
	refused(t, y, both, api.ErrFull)
	kept(t, y, 0, api.MaxEntries)
}

// P10: what is kept, ahead of Compact and behind it.
func TestKept(t *testing.T) {
	x := few(t)
	kept(t, x, 0, 0)
	x.Compact()
	kept(t, x, 0, 0)
	granted(t, x, "bob", both)
	granted(t, x, "bob", both)
	kept(t, x, 2, 2)
	x.Compact() // without a policy nothing is seen
	kept(t, x, 0, 2)
	granted(t, x, "bob", both)
	kept(t, x, 1, 3)
	added(t, x, "ever select q.id from log q where q.user = 'eve'", 1, api.OK)
	kept(t, x, 1, 3)
	granted(t, x, "bob", both)
	granted(t, x, "bob", both)
	denied(t, x, "eve", both, 1)
	kept(t, x, 3, 5)
	x.Compact() // the policy sees 4 and 5
	kept(t, x, 2, 5)
	x.Compact()
	kept(t, x, 2, 5)
	added(t, x, "within 10 select q.id from log q where q.user = 'eve'", 2, api.OK)
	x.Tick(5)
	granted(t, x, "bob", both)
	x.Tick(10)
	granted(t, x, "bob", both)
	kept(t, x, 4, 7)
	x.Compact()
	kept(t, x, 4, 7)
	dropped(t, x, 1, api.OK)
	kept(t, x, 4, 7)
	x.Compact() // 6 and 7
	kept(t, x, 2, 7)
	x.Tick(14)
	x.Compact()
	kept(t, x, 2, 7)
	x.Tick(15)
	kept(t, x, 2, 7)
	x.Compact() // 7
	kept(t, x, 1, 7)
	x.Tick(19)
	x.Compact()
	kept(t, x, 1, 7)
	x.Tick(20)
	x.Compact()
	kept(t, x, 0, 7)
	granted(t, x, "bob", both)
	kept(t, x, 1, 8)
	dropped(t, x, 2, api.OK)
	kept(t, x, 1, 8)
	x.Compact()
	kept(t, x, 0, 8)
}

// P10: between Compact and the next Ask, Add, Drop or Tick nothing comes back.
func TestKeptStays(t *testing.T) {
	x := few(t)
	added(t, x, "within 3 select q.id from log q where q.user = 'eve'", 1, api.OK)
	for time := range 6 {
		x.Tick(time)
		granted(t, x, "bob", both)
	}
	x.Compact()
	kept(t, x, 3, 6)
	created(t, x, "u", "x:i", api.OK)
	inserted(t, x, "u", "1", 1, api.OK)
	deleted(t, x, "t", 1, api.OK)
	x.Compact()
	kept(t, x, 3, 6)
	refused(t, x, "select", api.ErrText)
	added(t, x, "select", 0, api.ErrText)
	dropped(t, x, 9, api.ErrNone)
	kept(t, x, 3, 6)
}

// P10: behind Compact the policies find what they found.
func TestPoliciesBehindCompact(t *testing.T) {
	x := few(t)
	granted(t, x, "eve", both)
	added(t, x, "within 10 select count(*) from touch z, log q where (z.id = q.id and (q.user = 'bob' and z.row = 2)) having count(*) > 2", 1, api.OK)
	x.Compact()
	kept(t, x, 0, 1)
	granted(t, x, "bob", two)
	x.Compact()
	x.Tick(4)
	x.Compact()
	granted(t, x, "bob", both)
	x.Compact()
	kept(t, x, 2, 3)
	denied(t, x, "bob", two, 1)
	granted(t, x, "eve", two)
	x.Tick(9)
	x.Compact()
	denied(t, x, "bob", two, 1)
	x.Tick(10)
	x.Compact()
	kept(t, x, 2, 4)
	granted(t, x, "bob", two)
	denied(t, x, "bob", two, 1)
	added(t, x, "ever select q.id from log q where (q.id < 6 or q.id > 6)", 2, api.OK)
	x.Compact()
	granted(t, x, "bob", one)
	denied(t, x, "bob", none, 2)
	kept(t, x, 4, 6)
}
