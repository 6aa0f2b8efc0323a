package tribune_test

import (
	"math/rand"
	"slices"
	"testing"
	"unsafe"

	"tribune/api"
	"tribune/tribune"
)

// P1: whatever is handed in, each call ends, and beside an error stands nothing.
func TestAnyBytes(t *testing.T) {
	r := rand.New(rand.NewSource(3))
	pieces := []string{"select ", " from ", "where ", "(", ")", "'", "-", "0", "9", "t", "a", ".", ",", ":", "i", " ", "\x00", "\xff", "é", "not ", "exists", "count(", "null"}
	text := func() string {
		s := ""
		for range r.Intn(30) {
			s += pieces[r.Intn(len(pieces))]
		}
		return s
	}
	x := tribune.New()
	created(t, x, "t", "x:i,y:t", api.OK)
	for range 50000 {
		if s, e := tribune.Print(text()); e != api.OK && s != "" {
			t.Errorf("P1: Print: %q beside %d", s, e)
		}
		x.Create(text(), text())
		if n, e := x.Insert([]string{"t", text()}[r.Intn(2)], []string{text(), text()}[:r.Intn(3)]); e != api.OK && n != 0 {
			t.Errorf("P1: Insert: %d beside %d", n, e)
		}
		x.Delete("t", r.Intn(100)-50)
		x.Tick(r.Int() - r.Int())
	}
}

// P2: engines know nothing of each other.
func TestEnginesStandAlone(t *testing.T) {
	x, y := tribune.New(), tribune.New()
	created(t, x, "t", "x:i", api.OK)
	inserted(t, x, "t", "1", 1, api.OK)
	inserted(t, y, "t", "1", 0, api.ErrNone)
	created(t, y, "t", "x:t", api.OK)
	inserted(t, y, "t", "'a'", 1, api.OK)
	inserted(t, x, "t", "1", 2, api.OK)
	deleted(t, y, "t", 2, api.ErrNone)
	if x.Tick(9) != 9 || y.Tick(5) != 5 || x.Tick(0) != 9 {
		t.Error("P2: the clocks hang together")
	}
}

// P2: a list that is handed in stays as it is, with what lies behind it.
func TestListsStayAsTheyAre(t *testing.T) {
	x := tribune.New()
	created(t, x, "t", "x:i,y:t", api.OK)
	memory := []string{"1", "'a'", "behind"}
	for n, want := range []api.Errno{api.ErrText, api.ErrText, api.OK, api.ErrText} {
		if _, e := x.Insert("t", memory[:n]); e != want {
			t.Errorf("P7: Insert of %d values: %d, want %d", n, e, want)
		}
	}
	if !slices.Equal(memory, []string{"1", "'a'", "behind"}) {
		t.Errorf("P2: the list is %q now", memory)
	}
}

// P2: nothing of a text is kept, so it does not matter what becomes of its memory.
func TestTextsAreNotKept(t *testing.T) {
	x := tribune.New()
	memory := []byte("t")
	created(t, x, unsafe.String(&memory[0], 1), "x:i", api.OK)
	memory[0] = 'u'
	inserted(t, x, "t", "1", 1, api.OK)
	inserted(t, x, "u", "1", 0, api.ErrNone)

	query := []byte("select 1 from t a")
	printed, e := tribune.Print(unsafe.String(&query[0], len(query)))
	query[7] = '2'
	if printed != "select 1 from t a" || e != api.OK {
		t.Errorf("P2: what was printed is %q now, %d", printed, e)
	}
}
