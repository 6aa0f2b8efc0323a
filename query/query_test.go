package query

import (
	"reflect"
	"testing"

	"tribune/token"
	"tribune/value"
)

func read(text string) (Statement, bool) {
	tokens, ok := token.Scan(text)
	if !ok {
		return Statement{}, false
	}
	return Read(tokens)
}

func column(source, name string) *Node { return &Node{Kind: Column, Source: source, Name: name} }

func number(n int64) *Node {
	return &Node{Kind: Constant, Value: value.Value{Kind: value.Number, Number: n}}
}

func node(kind Kind, parts ...*Node) *Node { return &Node{Kind: kind, Parts: parts} }

func TestReadQuery(t *testing.T) {
	got, ok := read("select a.x, 'w', null, now from t a, u b where a.x = 1 group by a.x, b.y having count(*) > 2")
	want := Statement{Query: &Query{
		Exprs: []*Node{
			column("a", "x"),
			{Kind: Constant, Value: value.Value{Kind: value.Word, Word: "w"}},
			{Kind: Constant},
			{Kind: Now},
		},
		Sources: []Source{{"t", "a"}, {"u", "b"}},
		Where:   node(Equal, column("a", "x"), number(1)),
		Group:   []*Node{column("a", "x"), column("b", "y")},
		Having:  node(Greater, node(CountAll), number(2)),
	}}
	if !ok || !reflect.DeepEqual(got, want) {
		t.Errorf("Read: %+v, %t", got.Query, ok)
	}
}

func TestReadForms(t *testing.T) {
	for text, want := range map[string]Statement{
		"select 1 from t a":            {Form: Plain},
		"ever select 1 from t a":       {Form: Ever},
		"within 7 select 1 from t a":   {Form: Within, Span: 7},
		"within -7 select 1 from t a":  {Form: Within, Span: -7},
		" within 0 select 1 from t a ": {Form: Within},
	} {
		got, ok := read(text)
		if !ok || got.Form != want.Form || got.Span != want.Span || got.Query == nil {
			t.Errorf("%q: %+v, %t", text, got, ok)
		}
	}
}

func TestReadExpr(t *testing.T) {
	one, two := number(1), number(2)
	for text, want := range map[string]*Node{
		"(1 + 2)":             node(Plus, one, two),
		"(1 - 2)":             node(Minus, one, two),
		"(1 * 2)":             node(Times, one, two),
		"((1 + 2) * (2 - 1))": node(Times, node(Plus, one, two), node(Minus, two, one)),
		"count(*)":            node(CountAll),
		"count(1)":            node(Count, one),
		"sum(1)":              node(Sum, one),
		"min((1 + 2))":        node(Min, node(Plus, one, two)),
		"max(min(1))":         node(Max, node(Min, one)),
	} {
		got, ok := read("select " + text + " from t a")
		if !ok || !reflect.DeepEqual(got.Query.Exprs, []*Node{want}) {
			t.Errorf("%q: %+v, %t", text, got.Query, ok)
		}
	}
}

func TestReadCond(t *testing.T) {
	equal := node(Equal, number(1), number(2))
	less := node(Less, node(Plus, number(1), number(2)), number(3))
	inner := &Query{Exprs: []*Node{number(1)}, Sources: []Source{{"t", "b"}}, Where: node(And, equal, less)}
	for text, want := range map[string]*Node{
		"1 = 2":                        equal,
		"(1 + 2) < 3":                  less,
		"1 > (1 + 2)":                  node(Greater, number(1), node(Plus, number(1), number(2))),
		"1 is null":                    node(IsNull, number(1)),
		"(1 = 2 and (1 + 2) < 3)":      node(And, equal, less),
		"((1 + 2) < 3 or 1 = 2)":       node(Or, less, equal),
		"((1 = 2 or 1 = 2) and 1 = 2)": node(And, node(Or, equal, equal), equal),
		"not not 1 = 2":                node(Not, node(Not, equal)),
		"(not 1 = 2 or 1 = 2)":         node(Or, node(Not, equal), equal),
		"not (1 = 2 or 1 = 2)":         node(Not, node(Or, equal, equal)),
		"((1 + 2) * (1 + 2)) is null":  node(IsNull, node(Times, less.Parts[0], less.Parts[0])),
		"exists (select 1 from t b where (1 = 2 and (1 + 2) < 3))":            {Kind: Exists, Query: inner},
		"(1 = 2 or exists (select 1 from t b where (1 = 2 and (1 + 2) < 3)))": node(Or, equal, &Node{Kind: Exists, Query: inner}),
	} {
		for _, place := range []string{"where ", "having "} {
			got, ok := read("select 1 from t a " + place + text)
			if !ok || !reflect.DeepEqual([]*Node{got.Query.Where, got.Query.Having}, map[string][]*Node{"where ": {want, nil}, "having ": {nil, want}}[place]) {
				t.Errorf("%q: %+v, %t", place+text, got.Query, ok)
			}
		}
	}
}

func TestReadWrong(t *testing.T) {
	for _, text := range []string{
		"", "1", "a", "select", "select 1", "select 1 from", "select 1 from t", "select 1 from t a b", "select 1 from t a,",
		"select 1 from t a, u", "select 1 from t a u b", "select 1, from t a", "select , 1 from t a", "select * from t a",
		"select 1 from t a where", "select 1 from t a where 1", "select 1 from t a where 1 =", "select 1 from t a where = 1",
		"select 1 from t a where (1 = 1)", "select 1 from t a where 1 = 1 and 1 = 1", "select 1 from t a where (1 = 1 and)",
		"select 1 from t a where (1 = 1 and 1 = 1", "select 1 from t a where (1 = 1 and 1 = 1))", "select 1 from t a where (1 and 1)",
		"select 1 from t a where ((1 = 1 and 1 = 1))", "select 1 from t a where (1 = 1 and 1 = 1) = 1",
		"select 1 from t a where (1 = 1 + 1 = 1)", "select 1 from t a where (1 and 1) = 1", "select 1 from t a where (1 + 1 and 1 = 1)",
		"select 1 from t a where 1 is 1", "select 1 from t a where 1 is", "select 1 from t a where 1 = 1 is null",
		"select 1 from t a where exists", "select 1 from t a where exists ()", "select 1 from t a where exists (ever select 1 from t b)",
		"select 1 from t a where exists (select 1 from t b", "select 1 from t a where exists (select 1 from t b) = 1",
		"select (1 = 1) from t a", "select not 1 = 1 from t a", "select (1 + 1 from t a", "select 1 + 1 from t a", "select () from t a",
		"select (select 1 from t b) from t a", "select (1 and 1) from t a", "select ((1)) from t a",
		"select count from t a", "select count * from t a", "select count(* from t a", "select count(1, 1) from t a",
		"select min(*) from t a", "select max() from t a", "select sum from t a", "select now() from t a",
		"select a from t a", "select a. from t a", "select .x from t a", "select a.x.y from t a", "select a.1 from t a", "select a.count from t a",
		"select 1 from t a group by", "select 1 from t a group by (a.x + 1)", "select 1 from t a group by a.x,", "select 1 from t a by a.x",
		"select 1 from t a having", "select 1 from t a having 1 = 1 group by a.x", "select 1 from t a where 1 = 1 where 1 = 1",
		"select 1 from t.u a", "select 1 from (select 1 from t b) a", "select 1 from log touch, where", "select 1 from t a ever",
		"within", "within 1", "within 1 1 select 1 from t a", "within a select 1 from t a", "ever 1 select 1 from t a", "ever within 1 select 1 from t a",
		"select 1 from t a select 1 from t a", "(select 1 from t a)",
	} {
		if got, ok := read(text); ok || got.Query != nil {
			t.Errorf("%q was read", text)
		}
	}
}

func TestDepth(t *testing.T) {
	for text, want := range map[string]int{
		"select 1 from t a":                                                   2,
		"ever select 1 from t a":                                              2,
		"select 1 from t a group by a.x":                                      2,
		"select 1, (1 + (1 + 1)) from t a":                                    4,
		"select 1, (1 + 1), 1 from t a":                                       3,
		"select count(*) from t a":                                            2,
		"select count(1) from t a":                                            3,
		"select 1 from t a where 1 is null":                                   3,
		"select 1 from t a where 1 = (1 + 1)":                                 4,
		"select 1 from t a having not 1 = 1":                                  4,
		"select 1 from t a where (1 = 1 or not 1 = 1)":                        5,
		"select 1 from t a where exists (select 1 from t b)":                  4,
		"select 1 from t a where exists (select 1 from t b having not 1 = 1)": 6,
	} {
		s, ok := read(text)
		if !ok || s.Query.Depth() != want {
			t.Errorf("%q: %t, want the depth %d", text, ok, want)
		}
	}
}
