package tribune_test

import (
	"cmp"
	"fmt"
	"maps"
	"math/big"
	"math/rand"
	"slices"
	"sort"
	"strings"
	"testing"

	"tribune/api"
	"tribune/tribune"
)

// What follows makes queries and works out by other means than the program's what is to come of them:
// each piece of a query is made together with a function that is its meaning.

// line is a row of a table: nil, *big.Int and string are its values.
type line struct {
	table  string
	number int
	cells  map[string]any
}

// spot is where sources stand, by what they are called; and the group that aggregates are of.
type spot struct {
	lines map[string]line
	group []map[string]line
}

type errRun struct{}

type maker struct {
	*rand.Rand
	policy   bool // what is made is a policy, and may ask the log
	lines    map[string][]line
	columns  map[string]string
	now      int64
	work     int
	badName  bool
	badShape bool
	badType  bool
}

// place is where a piece stands.
type place struct {
	called  []string          // of all sources at hand
	tables  map[string]string // of these
	own     int               // how many of called are of queries around
	group   []string          // the columns of the group by
	grouped bool              // columns outside of aggregates should be of the group by
	part    string            // exprs, where, having
	within  bool              // an aggregate
	depth   int
	found   *found
}

// found is what was seen in the exprs and the having of a query.
type found struct {
	strays     []string
	aggregates bool
}

// expr is a text, its type (i, t, or n for null) and its meaning.
type expr struct {
	text string
	kind string
	mean func(spot) any
}

func (m *maker) maybe(percent int) bool { return m.Intn(100) < percent }

func pick[T any](m *maker, from ...T) T { return from[m.Intn(len(from))] }

func bounded(n *big.Int) any {
	if n.CmpAbs(big.NewInt(api.MaxNumber)) > 0 {
		panic(errRun{})
	}
	return n
}

func (m *maker) column(p place, want string) expr {
	for range 20 {
		i := m.Intn(len(p.called))
		called := p.called[i]
		columns := strings.Split(m.columns[p.tables[called]], ",")
		name, kind, _ := strings.Cut(pick(m, columns...), ":")
		text := called + "." + name
		if kind != want && want != "" && m.maybe(97) {
			continue
		}
		isStray := i >= p.own && !p.within && p.part != "where" && !slices.Contains(p.group, text)
		if isStray && p.grouped && m.maybe(97) {
			continue
		}
		if isStray {
			p.found.strays = append(p.found.strays, text)
		}
		if m.maybe(1) {
			m.badName = true
			return expr{pick(m, called+".nope", "nope."+name), kind, nil}
		}
		return expr{text, kind, func(s spot) any { return s.lines[called].cells[name] }}
	}
	return expr{"null", "n", func(spot) any { return nil }}
}

func (m *maker) constant(want string) expr {
	number := func(n int64) expr {
		return expr{fmt.Sprint(n), "i", func(spot) any { return big.NewInt(n) }}
	}
	switch {
	case m.maybe(10):
		return expr{"null", "n", func(spot) any { return nil }}
	case want == "t" && m.maybe(97):
		word := pick(m, "", "a", "b", "ab", "0")
		return expr{"'" + word + "'", "t", func(spot) any { return word }}
	case m.maybe(15):
		return expr{"now", "i", func(spot) any { return big.NewInt(m.now) }}
	case m.maybe(5) || m.policy && m.maybe(15):
		return number(pick[int64](m, 1000000000000, -1000000000000, 999999999999, 3000000))
	}
	return number(int64(m.Intn(7) - 2))
}

func (m *maker) arithmetic(p place) expr {
	p.depth++
	left, right := m.expr(p, "i"), m.expr(p, "i")
	if left.kind == "t" || right.kind == "t" {
		m.badType = true
	}
	sign := pick(m, "+", "-", "*")
	return expr{"(" + left.text + " " + sign + " " + right.text + ")", "i", func(s spot) any {
		l, r := left.mean(s), right.mean(s)
		if l == nil || r == nil {
			return nil
		}
		a, b, n := l.(*big.Int), r.(*big.Int), new(big.Int)
		return bounded(map[string]*big.Int{"+": n.Add(a, b), "-": new(big.Int).Sub(a, b), "*": new(big.Int).Mul(a, b)}[sign])
	}}
}

func (m *maker) aggregate(p place, want string) expr {
	if p.part == "where" || p.within {
		m.badShape = true
	}
	if p.part == "exprs" {
		p.found.aggregates = true
	}
	p.within = true
	p.depth++
	if p.depth > api.MaxDepth || want != "t" && m.maybe(25) {
		return expr{"count(*)", "i", func(s spot) any { return big.NewInt(int64(len(s.group))) }}
	}
	name := pick(m, "min", "max")
	if want != "t" {
		name = pick(m, "count", "sum", "min", "max")
	}
	wanted := map[string]string{"count": "", "sum": "i"}[name]
	if name == "min" || name == "max" {
		wanted = want
	}
	part := m.expr(p, wanted)
	if name == "sum" && part.kind == "t" {
		m.badType = true
	}
	kind := "i"
	if name == "min" || name == "max" {
		kind = part.kind
	}
	return expr{name + "(" + part.text + ")", kind, func(s spot) any {
		var values []any
		for _, lines := range s.group {
			if v := part.mean(spot{lines: lines}); v != nil {
				values = append(values, v)
			}
		}
		return aggregated(name, values)
	}}
}

func aggregated(name string, values []any) any {
	if name == "count" {
		return big.NewInt(int64(len(values)))
	}
	if len(values) == 0 {
		return nil
	}
	if name == "sum" {
		total := new(big.Int)
		for _, v := range values {
			total.Add(total, v.(*big.Int))
		}
		return bounded(total)
	}
	sort.Slice(values, func(i, j int) bool { return order(values[i], values[j]) < 0 })
	if name == "min" {
		return values[0]
	}
	return values[len(values)-1]
}

// order has null ahead of numbers, and these ahead of words.
func order(a, b any) int {
	rank := func(v any) int {
		switch v.(type) {
		case nil:
			return 0
		case *big.Int:
			return 1
		}
		return 2
	}
	if rank(a) != rank(b) {
		return rank(a) - rank(b)
	}
	switch a := a.(type) {
	case *big.Int:
		return a.Cmp(b.(*big.Int))
	case string:
		return cmp.Compare(a, b.(string))
	}
	return 0
}

func (m *maker) expr(p place, want string) expr {
	percent := 1
	if p.part != "where" && !p.within && p.grouped {
		percent = 45
	}
	switch {
	case m.maybe(percent):
		return m.aggregate(p, want)
	case p.depth < api.MaxDepth && want != "t" && m.maybe(25):
		return m.arithmetic(p)
	case m.maybe(65):
		return m.column(p, want)
	}
	return m.constant(want)
}

// A cond's meaning is 0, 1 or 2: false, unknown, true.
type cond struct {
	text string
	mean func(spot) int
}

func truth(is bool) int {
	if is {
		return 2
	}
	return 0
}

func (m *maker) cond(p place) cond {
	deep := api.MaxDepth - p.depth
	inner := p
	inner.depth++
	percent := 12
	if p.part == "having" {
		percent = 1
	}
	switch {
	case deep >= 2 && m.maybe(20):
		return m.joined(inner)
	case deep >= 2 && m.maybe(15):
		c := m.cond(inner)
		return cond{"not " + c.text, func(s spot) int { return 2 - c.mean(s) }}
	case deep >= 2 && m.maybe(percent):
		return m.exists(inner)
	case m.maybe(20):
		e := m.expr(inner, "")
		return cond{e.text + " is null", func(s spot) int { return truth(e.mean(s) == nil) }}
	}
	return m.compared(inner)
}

func (m *maker) joined(p place) cond {
	left, right := m.cond(p), m.cond(p)
	joint := pick(m, "and", "or")
	return cond{"(" + left.text + " " + joint + " " + right.text + ")", func(s spot) int {
		both := []int{left.mean(s), right.mean(s)}
		for _, v := range map[string][]int{"and": {0, 1}, "or": {2, 1}}[joint] {
			if slices.Contains(both, v) {
				return v
			}
		}
		return map[string]int{"and": 2, "or": 0}[joint]
	}}
}

func (m *maker) exists(p place) cond {
	if p.part == "having" {
		m.badShape = true
	}
	text, rows := m.query(p)
	return cond{"exists (" + text + ")", func(s spot) int { return truth(len(rows(s)) > 0) }}
}

func (m *maker) compared(p place) cond {
	want := pick(m, "i", "t")
	left, right := m.expr(p, want), m.expr(p, want)
	if left.kind+right.kind == "it" || left.kind+right.kind == "ti" {
		m.badType = true
	}
	sign := pick(m, "=", "<", ">")
	return cond{left.text + " " + sign + " " + right.text, func(s spot) int {
		l, r := left.mean(s), right.mean(s)
		if l == nil || r == nil {
			return 1
		}
		o := order(l, r)
		return truth(map[string]bool{"=": o == 0, "<": o < 0, ">": o > 0}[sign])
	}}
}

// result is a row of an answer.
type result struct {
	values []any
	from   []line
}

// sources adds the sources of a query to a place.
func (m *maker) sources(p place) (place, []string) {
	p.own = len(p.called)
	p.called, p.tables = slices.Clone(p.called), maps.Clone(p.tables)
	if p.tables == nil {
		p.tables = map[string]string{}
	}
	count := pick(m, 1, 1, 1, 2, 2, 3)
	if m.maybe(1) {
		count, m.badName = 4, true
	}
	var texts []string
	for i := range count {
		called := pick(m, "a", "b", "c", "d", "e", "f", "log", "x")
		for slices.Contains(p.called, called) && m.maybe(97) {
			called = string(rune('g'+i)) + called[:1] + string(rune('a'+len(p.called)))
		}
		table, none := pick(m, "t", "t", "u", "u", "v", "none"), pick(m, "nope", "log", "touch")
		if m.policy {
			table, none = pick(m, "log", "log", "log", "touch", "touch", "t", "u", "v", "none"), "nope"
		}
		if m.maybe(1) {
			texts = append(texts, none+" "+called)
			m.badName = true
		} else {
			texts = append(texts, table+" "+called)
		}
		m.badName = m.badName || slices.Contains(p.called, called)
		p.called = append(p.called, called)
		p.tables[called] = table
	}
	return p, texts
}

// query makes a query that stands at a place, and its meaning: its rows.
func (m *maker) query(p place) (string, func(spot) []result) {
	p, sources := m.sources(p)
	p.depth, p.found, p.group, p.within = p.depth+1, &found{}, nil, false
	p.part = "where"
	var group []expr
	var groupTexts []string
	p.grouped = m.maybe(45)
	if p.grouped && m.maybe(60) {
		for range 1 + m.Intn(2) {
			group = append(group, m.column(p, ""))
			groupTexts = append(groupTexts, group[len(group)-1].text)
		}
		if slices.Contains(groupTexts, "null") {
			group, groupTexts = nil, nil
		}
	}
	p.group = groupTexts
	text := ""
	where := cond{mean: func(spot) int { return 2 }}
	if p.depth < api.MaxDepth && m.maybe(60) {
		where = m.cond(p)
		text += " where " + where.text
	}
	if group != nil {
		text += " group by " + strings.Join(groupTexts, ", ")
	}
	having := cond{mean: func(spot) int { return 2 }}
	hasHaving := p.depth < api.MaxDepth && p.grouped && m.maybe(40)
	if hasHaving {
		p.part = "having"
		having = m.cond(p)
		text += " having " + having.text
	}
	p.part = "exprs"
	var exprs []expr
	var exprTexts []string
	for range 1 + m.Intn(3) {
		exprs = append(exprs, m.expr(p, pick(m, "", "i", "t")))
		exprTexts = append(exprTexts, exprs[len(exprs)-1].text)
	}
	isGrouped := group != nil || hasHaving || p.found.aggregates
	m.badShape = m.badShape || isGrouped && len(p.found.strays) > 0
	return "select " + strings.Join(exprTexts, ", ") + " from " + strings.Join(sources, ", ") + text, func(s spot) []result {
		kept := m.kept(p, where, s)
		groups := [][]map[string]line{kept}
		switch {
		case !isGrouped:
			groups = nil
			for _, lines := range kept {
				groups = append(groups, []map[string]line{lines})
			}
		case group != nil:
			groups = split(kept, group)
		}
		var rows []result
		for _, g := range groups {
			at := spot{lines: s.lines, group: g}
			if len(g) > 0 {
				at.lines = g[m.Intn(len(g))]
			}
			if having.mean(at) == 2 {
				rows = append(rows, rowOf(p, exprs, at))
			}
		}
		return rows
	}
}

// kept is the combinations for which the where is true.
func (m *maker) kept(p place, where cond, s spot) []map[string]line {
	all := []map[string]line{s.lines}
	for _, called := range p.called[p.own:] {
		var more []map[string]line
		for _, lines := range all {
			for _, l := range m.lines[p.tables[called]] {
				next := map[string]line{called: l}
				maps.Copy(next, lines)
				more = append(more, next)
			}
		}
		all = more
	}
	m.work += len(all)
	if m.work > api.MaxWork {
		panic(errRun{})
	}
	var kept []map[string]line
	for _, lines := range all {
		if where.mean(spot{lines: lines}) == 2 {
			kept = append(kept, lines)
		}
	}
	return kept
}

func split(kept []map[string]line, by []expr) [][]map[string]line {
	groups := map[string][]map[string]line{}
	for _, lines := range kept {
		key := ""
		for _, column := range by {
			v := column.mean(spot{lines: lines})
			key += fmt.Sprintf("%T %v;", v, v)
		}
		groups[key] = append(groups[key], lines)
	}
	var sorted [][]map[string]line // so that chance takes the same course each time
	for _, key := range slices.Sorted(maps.Keys(groups)) {
		sorted = append(sorted, groups[key])
	}
	return sorted
}

// rowOf is the row of a group.
func rowOf(p place, exprs []expr, at spot) result {
	var r result
	for _, e := range exprs {
		r.values = append(r.values, e.mean(at))
	}
	seen := map[string]bool{}
	for _, lines := range at.group {
		for _, called := range p.called[p.own:] {
			l := lines[called]
			if key := fmt.Sprint(l.table, l.number); !seen[key] {
				seen[key] = true
				r.from = append(r.from, l)
			}
		}
	}
	slices.SortFunc(r.from, compareLines)
	return r
}

func compareLines(a, b line) int {
	if a.table != b.table {
		return cmp.Compare(a.table, b.table)
	}
	return a.number - b.number
}

// results works a query's meaning out; false, if it is ErrRun.
func (m *maker) results(mean func(spot) []result) (rows []result, ok bool) {
	defer func() {
		if r := recover(); r != nil {
			if _, isRun := r.(errRun); !isRun {
				panic(r)
			}
			rows, ok = nil, false
		}
	}()
	m.work = 0
	return mean(spot{lines: map[string]line{}}), true
}

// toldOf writes rows as told does.
func toldOf(rows []result) string {
	slices.SortFunc(rows, func(a, b result) int {
		if c := slices.CompareFunc(a.values, b.values, order); c != 0 {
			return c
		}
		return slices.CompareFunc(a.from, b.from, compareLines)
	})
	var texts []string
	for _, r := range rows {
		var words []string
		for _, v := range r.values {
			switch v := v.(type) {
			case nil:
				words = append(words, "null")
			case string:
				words = append(words, "'"+v+"'")
			default:
				words = append(words, fmt.Sprint(v))
			}
		}
		text := strings.Join(words, " ") + " <"
		for _, l := range r.from {
			text += fmt.Sprint(" ", l.table, l.number)
		}
		texts = append(texts, text)
	}
	return strings.Join(texts, "; ")
}

// fault is what is wrong with the text that was made last.
func (m *maker) fault() api.Errno {
	switch {
	case m.badName:
		return api.ErrName
	case m.badShape:
		return api.ErrShape
	case m.badType:
		return api.ErrType
	}
	return api.OK
}

// text makes a query or a policy's query, and its meaning.
func (m *maker) text() (string, func(spot) []result) {
	m.badName, m.badShape, m.badType = false, false, false
	return m.query(place{depth: 1})
}

// tables makes tables in engines, with rows by chance and in one of them at most so many, and keeps what is in them.
func (m *maker) tables(t *testing.T, most int, engines ...*tribune.Engine) {
	t.Helper()
	m.columns = map[string]string{
		"t": "x:i,y:t", "u": "k:t,n:i,x:i", "v": "z:i", "none": "x:i,y:t",
		"log": "id:i,user:t,time:i", "touch": "id:i,tab:t,row:i",
	}
	m.lines = map[string][]line{}
	for _, name := range []string{"u", "none", "t", "v"} {
		for _, x := range engines {
			created(t, x, name, m.columns[name], api.OK)
		}
		for range map[string]int{"t": 4, "u": 3, "v": m.Intn(most + 1)}[name] {
			m.insert(t, name, engines...)
		}
	}
	m.tick(m.Intn(4), engines...)
}

func (m *maker) tick(time int, engines ...*tribune.Engine) {
	for _, x := range engines {
		m.now = int64(x.Tick(time))
	}
}

func (m *maker) insert(t *testing.T, name string, engines ...*tribune.Engine) {
	t.Helper()
	cells := map[string]any{}
	var texts []string
	for _, column := range strings.Split(m.columns[name], ",") {
		called, kind, _ := strings.Cut(column, ":")
		e := m.constant(kind)
		for e.kind != kind && e.kind != "n" || e.text == "now" {
			e = m.constant(kind)
		}
		texts = append(texts, e.text)
		cells[called] = e.mean(spot{})
	}
	number := 0
	for _, x := range engines {
		n, e := x.Insert(name, texts)
		if e != api.OK {
			t.Fatalf("P7: Insert(%q, %q): %d", name, texts, e)
		}
		number = n
	}
	m.lines[name] = append(m.lines[name], line{name, number, cells})
	if name == "t" && m.maybe(30) {
		m.remove(t, name, len(m.lines[name])-1, engines...)
	}
}

// remove deletes a row, by its place among those of its table.
func (m *maker) remove(t *testing.T, name string, at int, engines ...*tribune.Engine) {
	t.Helper()
	for _, x := range engines {
		deleted(t, x, name, m.lines[name][at].number, api.OK)
	}
	m.lines[name] = slices.Delete(m.lines[name], at, at+1)
}

// P4 to P6, P8: queries of all kinds, against what they mean.
func TestAskByMeaning(t *testing.T) {
	m := &maker{Rand: rand.New(rand.NewSource(5))}
	counts := map[api.Errno]int{}
	rows := 0
	var x *tribune.Engine
	for i := range 20000 {
		if i%20 == 0 {
			x = tribune.New()
			m.tables(t, 19, x)
		}
		text, mean := m.text()
		if len(text) > api.MaxText {
			continue
		}
		want, errno := "", m.fault()
		if errno == api.OK {
			rows, ok := m.results(mean)
			if !ok {
				errno = api.ErrRun
			}
			want = toldOf(rows)
		}
		a, e := x.Ask("bob", text)
		if got := told(a); got != want || e != errno {
			t.Errorf("P4, P5, P6: Ask(%q) = %q, %d, want %q, %d", text, got, e, want, errno)
		}
		counts[e]++
		rows += len(a.Rows)
	}
	t.Logf("%v, %d rows", counts, rows)
	for _, e := range []api.Errno{api.OK, api.ErrName, api.ErrShape, api.ErrType, api.ErrRun} {
		if counts[e] < 300 {
			t.Errorf("too few queries of a kind: %v", counts)
		}
	}
}
