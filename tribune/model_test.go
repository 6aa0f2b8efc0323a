package tribune_test

import (
	"fmt"
	"math/big"
	"math/rand"
	"slices"
	"testing"

	"tribune/api"
	"tribune/tribune"
)

// entry is an entry of the log.
type entry struct {
	user string
	time int64
	from []line
}

// rule is a policy; its span is below 0, if it is an ever.
type rule struct {
	number int
	since  int
	span   int64
	mean   func(spot) []result
}

// model is what engines are to answer, worked out by other means: it throws nothing away. Of the engines
// one is compacted now and then.
type model struct {
	*maker
	engines   []*tribune.Engine
	entries   []entry
	rules     []rule
	last      int  // the number of the last policy
	compacted int  // how many entries there were at the last Compact
	isCompact bool // since then came no Ask, Add, Drop or Tick
	counts    map[string]int
}

func newModel(t *testing.T, r *rand.Rand, counts map[string]int) *model {
	t.Helper()
	m := &model{maker: &maker{Rand: r}, engines: []*tribune.Engine{tribune.New(), tribune.New()}, counts: counts}
	m.tables(t, 3, m.engines...)
	return m
}

func (m *model) sees(r rule, number int) bool {
	return number > r.since && (r.span < 0 || m.entries[number-1].time > m.now-r.span)
}

// seen is how many entries at least one policy sees.
func (m *model) seen() int {
	count := 0
	for i := range m.entries {
		if slices.ContainsFunc(m.rules, func(r rule) bool { return m.sees(r, i+1) }) {
			count++
		}
	}
	return count
}

// finds tells what a policy finds: "" is nothing.
func (m *model) finds(r rule) string {
	m.lines["log"], m.lines["touch"] = nil, nil
	for i, e := range m.entries {
		if !m.sees(r, i+1) {
			continue
		}
		id := big.NewInt(int64(i + 1))
		m.lines["log"] = append(m.lines["log"], line{cells: map[string]any{"id": id, "user": e.user, "time": big.NewInt(e.time)}})
		for _, l := range e.from {
			m.lines["touch"] = append(m.lines["touch"], line{cells: map[string]any{"id": id, "tab": l.table, "row": big.NewInt(int64(l.number))}})
		}
	}
	m.Shuffle(len(m.lines["touch"]), func(i, j int) {
		m.lines["touch"][i], m.lines["touch"][j] = m.lines["touch"][j], m.lines["touch"][i]
	})
	rows, ok := m.results(r.mean)
	switch {
	case !ok:
		return "an error"
	case len(rows) > 0:
		return "a row"
	}
	return ""
}

// finder tries an entry: it is the number of the first policy that finds something, or 0.
func (m *model) finder(e entry) int {
	m.entries = append(m.entries, e)
	defer func() { m.entries = m.entries[:len(m.entries)-1] }()
	for _, r := range m.rules {
		if found := m.finds(r); found != "" {
			m.counts["denied by "+found]++
			if len(m.entries) > r.since+1 {
				m.counts["denied with entries ahead"]++
			}
			return r.number
		}
	}
	return 0
}

// touches is what an answer's rows are from.
func touches(rows []result) []line {
	var all []line
	for _, r := range rows {
		all = append(all, r.from...)
	}
	slices.SortFunc(all, compareLines)
	return slices.CompactFunc(all, func(a, b line) bool { return compareLines(a, b) == 0 })
}

func (m *model) ask(t *testing.T) {
	t.Helper()
	m.policy = false
	user := pick(m.maker, "a", "b", "ab", "0")
	text, mean := m.text()
	for len(text) > api.MaxText {
		text, mean = m.text()
	}
	want, errno, by := "", m.fault(), 0
	if errno == api.OK {
		rows, ok := m.results(mean)
		e := entry{user, m.now, touches(rows)}
		switch {
		case !ok:
			errno = api.ErrRun
		case len(m.entries) == api.MaxEntries:
			errno = api.ErrFull
		default:
			by = m.finder(e)
			if by != 0 {
				errno = api.ErrDenied
				break
			}
			want = toldOf(rows)
			m.entries = append(m.entries, e)
			m.counts[fmt.Sprint("answered with ", len(m.rules), " policies")]++
		}
	}
	for i, x := range m.engines {
		a, e := x.Ask(user, text)
		if told(a) != want || e != errno || a.Denied != by {
			t.Fatalf("P8, P9: engine %d: Ask(%s, %q) = %q, %d, %d, want %q, %d, %d", i, user, text, told(a), a.Denied, e, want, by, errno)
		}
	}
	m.isCompact = false
	if m.maybe(30) {
		m.drop(t, by) // else the first that denies all would deny the rest
	}
}

// made makes a policy, mostly one that finds nothing as things stand.
func (m *model) made() (string, rule) {
	m.policy = true
	for try := 0; ; try++ {
		query, mean := m.text()
		r := rule{number: m.last + 1, since: len(m.entries), span: -1, mean: mean}
		text := "ever " + query
		if m.maybe(60) {
			r.span = pick[int64](m.maker, 0, 1, 2, 3, 3, 4, 5, 8, 1000000000000)
			text = fmt.Sprint("within ", r.span, " ", query)
		}
		isRight := m.fault() == api.OK
		isUseful := isRight && m.finds(r) == "" || m.maybe(5)
		if len(text) <= api.MaxText && (isUseful || try > 30) {
			return text, r
		}
	}
}

func (m *model) add(t *testing.T) {
	t.Helper()
	text, r := m.made()
	errno := m.fault()
	switch {
	case errno != api.OK:
		r.number = 0
	case len(m.rules) == api.MaxPolicies:
		r.number, errno = 0, api.ErrFull
	default:
		m.last++
		m.rules = append(m.rules, r)
	}
	for _, x := range m.engines {
		added(t, x, text, r.number, errno)
	}
	m.counts[fmt.Sprint("Add is ", errno)]++
	m.isCompact = false
}

func (m *model) drop(t *testing.T, n int) {
	t.Helper()
	want := api.ErrNone
	if i := slices.IndexFunc(m.rules, func(r rule) bool { return r.number == n }); i >= 0 {
		want = api.OK
		m.rules = slices.Delete(m.rules, i, i+1)
	}
	for _, x := range m.engines {
		dropped(t, x, n, want)
	}
	m.isCompact = false
}

func (m *model) compact() {
	m.engines[1].Compact()
	m.isCompact, m.compacted = true, len(m.entries)
}

func (m *model) step(t *testing.T) {
	t.Helper()
	name := pick(m.maker, "t", "u", "v")
	switch at := m.Intn(100); {
	case at < 15:
		m.add(t)
	case at < 20:
		m.drop(t, m.Intn(m.last+2))
	case at < 23 && len(m.rules) > 0:
		m.drop(t, m.rules[0].number)
	case at < 35:
		m.tick(int(m.now)+m.Intn(4)-1, m.engines...)
		m.isCompact = false
	case at < 40 && len(m.lines[name]) < 4:
		m.insert(t, name, m.engines...)
	case at < 45 && len(m.lines[name]) > 1:
		m.remove(t, name, m.Intn(len(m.lines[name])), m.engines...)
	case at < 60:
		m.compact()
	default:
		m.ask(t)
	}
}

// hold tells whether the engines have and keep as many entries as they should.
func (m *model) hold(t *testing.T) {
	t.Helper()
	kept(t, m.engines[0], len(m.entries), len(m.entries))
	y := m.engines[1]
	if y.Entries() != len(m.entries) || y.Kept() > len(m.entries) || y.Kept() < len(m.entries)-m.compacted || m.isCompact && y.Kept() > m.seen() {
		t.Errorf("P10: %d of %d entries are kept; %d came since Compact, %d are seen", y.Kept(), y.Entries(), len(m.entries)-m.compacted, m.seen())
	}
	if m.isCompact && m.seen() > 0 && m.seen() < len(m.entries) {
		m.counts["compacted in part"]++
	}
}

// P8, P9, P10: calls of all kinds, of an engine that is never compacted and of one that is, against what is to come of them.
func TestCallsByModel(t *testing.T) {
	r := rand.New(rand.NewSource(6))
	counts := map[string]int{}
	for range 200 {
		m := newModel(t, r, counts)
		for range 200 {
			m.step(t)
			m.hold(t)
		}
		if t.Failed() {
			break
		}
	}
	t.Log(counts)
	for what, least := range map[string]int{"denied by a row": 1000, "denied by an error": 100, "denied with entries ahead": 300, "answered with 3 policies": 300, "compacted in part": 300, "Add is 3": 10, "Add is 4": 10, "Add is 5": 10, "Add is 7": 100} {
		if counts[what] < least {
			t.Errorf("too little of a kind: %s: %d", what, counts[what])
		}
	}
}
