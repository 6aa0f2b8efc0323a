package tribune_test

import (
	"math/rand"
	"slices"
	"testing"
	"unsafe"

	"tribune/api"
	"tribune/tribune"
)

// P1: whatever is handed in, each call ends, and beside an error stands nothing.
func TestAnyBytes(t *testing.T) {
	r := rand.New(rand.NewSource(3))
	pieces := []string{"select ", " from ", "where ", "(", ")", "'", "-", "0", "9", "t", "a", ".", ",", ":", "i", " ", "\x00", "\xff", "é", "not ", "exists", "count(", "null", "ever ", "within "}
	text := func() string {
		s := ""
		for range r.Intn(30) {
			s += pieces[r.Intn(len(pieces))]
		}
		return s
	}
	x := tribune.New()
	created(t, x, "t", "x:i,y:t", api.OK)
	for range 50000 {
		if s, e := tribune.Print(text()); e != api.OK && s != "" {
			t.Errorf("P1: Print: %q beside %d", s, e)
		}
		x.Create(text(), text())
		if n, e := x.Insert([]string{"t", text()}[r.Intn(2)], []string{text(), text()}[:r.Intn(3)]); e != api.OK && n != 0 {
			t.Errorf("P1: Insert: %d beside %d", n, e)
		}
		if a, e := x.Ask([]string{"bob", text()}[r.Intn(2)], text()); e != api.OK && (a.Rows != nil || a.Denied != 0) {
			t.Errorf("P1: Ask: %v beside %d", a, e)
		}
		if n, e := x.Add(text()); e != api.OK && n != 0 {
			t.Errorf("P1: Add: %d beside %d", n, e)
		}
		x.Delete("t", r.Intn(100)-50)
		x.Drop(r.Int() - r.Int())
		x.Compact()
		if x.Kept() > x.Entries() || x.Kept() < 0 {
			t.Errorf("P10: %d of %d entries are kept", x.Kept(), x.Entries())
		}
		x.Tick(r.Int() - r.Int())
	}
}

// P2: engines know nothing of each other.
func TestEnginesStandAlone(t *testing.T) {
	x, y := tribune.New(), tribune.New()
	created(t, x, "t", "x:i", api.OK)
	inserted(t, x, "t", "1", 1, api.OK)
	inserted(t, y, "t", "1", 0, api.ErrNone)
	created(t, y, "t", "x:t", api.OK)
	inserted(t, y, "t", "'a'", 1, api.OK)
	inserted(t, x, "t", "1", 2, api.OK)
	deleted(t, y, "t", 2, api.ErrNone)
	if x.Tick(9) != 9 || y.Tick(5) != 5 || x.Tick(0) != 9 {
		t.Error("P2: the clocks hang together")
	}
	asked(t, x, "select a.x, now from t a", "1 9 < t1; 1 9 < t2")
	asked(t, y, "select a.x, now from t a", "'a' 5 < t1")
	asked(t, y, "select a.x, now from t a", "'a' 5 < t1")
	if x.Entries() != 1 || y.Entries() != 2 {
		t.Error("P2: the logs hang together")
	}
	added(t, x, "ever select 1 from log q where q.id > 2", 1, api.OK)
	added(t, y, "ever select 1 from log q where q.id > 3", 1, api.OK)
	added(t, y, "ever select 1 from log q where q.id > 2", 2, api.OK)
	granted(t, x, "bob", "select a.x from t a")
	denied(t, x, "bob", "select a.x from t a", 1)
	denied(t, y, "bob", "select a.x from t a", 2)
	dropped(t, x, 2, api.ErrNone)
	dropped(t, y, 2, api.OK)
	y.Compact()
	kept(t, x, 2, 2)
	kept(t, y, 0, 2)
	denied(t, x, "bob", "select a.x from t a", 1)
	granted(t, y, "bob", "select a.x from t a")
}

// P2: a list that is handed in stays as it is, with what lies behind it.
func TestListsStayAsTheyAre(t *testing.T) {
	x := tribune.New()
	created(t, x, "t", "x:i,y:t", api.OK)
	memory := []string{"1", "'a'", "behind"}
	for n, want := range []api.Errno{api.ErrText, api.ErrText, api.OK, api.ErrText} {
		if _, e := x.Insert("t", memory[:n]); e != want {
			t.Errorf("P7: Insert of %d values: %d, want %d", n, e, want)
		}
	}
	if !slices.Equal(memory, []string{"1", "'a'", "behind"}) {
		t.Errorf("P2: the list is %q now", memory)
	}
}

// P2: nothing of a text is kept, so it does not matter what becomes of its memory.
func TestTextsAreNotKept(t *testing.T) {
	x := tribune.New()
	memory := []byte("t")
	created(t, x, unsafe.String(&memory[0], 1), "x:i", api.OK)
	memory[0] = 'u'
	inserted(t, x, "t", "1", 1, api.OK)
	inserted(t, x, "u", "1", 0, api.ErrNone)

	query := []byte("select 1 from t a")
	printed, e := tribune.Print(unsafe.String(&query[0], len(query)))
	query[7] = '2'
	if printed != "select 1 from t a" || e != api.OK {
		t.Errorf("P2: what was printed is %q now, %d", printed, e)
	}
}

// P2: nor is anything of a query: neither the answer nor the engine shares its memory.
func TestQueriesAreNotKept(t *testing.T) {
	x := few(t)
	text := []byte("select 'w', a.x from t a group by a.x")
	user := []byte("bob")
	a, e := x.Ask(unsafe.String(&user[0], len(user)), unsafe.String(&text[0], len(text)))
	clear(text)
	clear(user)
	if got := told(a); got != "'w' 1 < t1; 'w' 2 < t2" || e != api.OK {
		t.Errorf("P2: what was told is %q now, %d", got, e)
	}
	asked(t, x, "select a.x from t a", "1 < t1; 2 < t2")
}

// P2: nor is anything of a policy's text, or of what a user is called.
func TestPoliciesAreNotKept(t *testing.T) {
	x := few(t)
	text := []byte("ever select q.user from log q, touch z, t a where ((q.user = 'eve' and z.tab = 't') and exists (select r.id from log r where r.id = z.id))")
	added(t, x, unsafe.String(&text[0], len(text)), 1, api.OK)
	clear(text)
	granted(t, x, "bob", both)
	denied(t, x, "eve", both, 1)
	for i := range text {
		text[i] = 'a'
	}
	user := []byte("bob")
	granted(t, x, unsafe.String(&user[0], len(user)), both)
	copy(user, "eve")
	granted(t, x, "bob", both)
	denied(t, x, "eve", one, 1)
}

// P2: what is done with an answer does not reach the log.
func TestAnswersAreNotInTheLog(t *testing.T) {
	x := few(t)
	added(t, x, "ever select z.id from touch z where (not z.tab = 't' or z.row > 2)", 1, api.OK)
	added(t, x, "ever select 1 from touch z where z.tab = 't' having count(*) > 4", 2, api.OK)
	a, e := x.Ask("bob", both)
	if e != api.OK || len(a.Rows) != 2 {
		t.Fatalf("P8: %v, %d", a, e)
	}
	for _, r := range a.Rows {
		fill(r.From, api.Touch{Table: "spoiled", Row: 9})
	}
	granted(t, x, "bob", one)
	denied(t, x, "bob", both, 2)
	granted(t, x, "bob", two)
}

// fill writes a list full, with its spare room.
func fill[T any](list []T, with T) {
	list = list[:cap(list)]
	for i := range list {
		list[i] = with
	}
}

// P2: an answer belongs to whom it is given, list by list.
func TestAnswersAreNewMemory(t *testing.T) {
	texts := []string{
		"select a.x, a.y, 'w', null, now from t a", "select a.y from t a, t b", "select count(*), min(a.y) from t a", "select a.x from t a group by a.x",
		"select a.x from t a where exists (select b.x from t b)", "select 1 from t a where 1 = 2", "select max(a.x) from t a where 1 = 2",
	}
	x := few(t)
	var before []string
	for _, text := range texts {
		a, _ := x.Ask("bob", text)
		before = append(before, told(a))
	}
	for i, text := range texts {
		a, _ := x.Ask("bob", text)
		for n := range a.Rows {
			others := append(slices.Clone(a.Rows[:n]), a.Rows[n+1:]...)
			same := told(api.Answer{Rows: others})
			fill(a.Rows[n].Values, "spoiled")
			if got := told(api.Answer{Rows: others}); got != same {
				t.Errorf("P2: %q: the values of row %d share memory: %q, then %q", text, n, same, got)
			}
			fill(a.Rows[n].From, api.Touch{Table: "spoiled", Row: 9})
			if got := told(api.Answer{Rows: others}); got != same {
				t.Errorf("P2: %q: the from of row %d shares memory: %q, then %q", text, n, same, got)
			}
		}
		fill(a.Rows, api.Row{})
		for j, again := range texts {
			if b, e := x.Ask("bob", again); told(b) != before[j] || e != api.OK {
				t.Errorf("P2: Ask(%q) behind a spoiled answer to %q: %q, want %q", again, texts[i], told(b), before[j])
			}
		}
		if x.Entries() > 40 {
			x = few(t)
		}
	}
}
