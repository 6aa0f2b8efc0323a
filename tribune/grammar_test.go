package tribune_test

import (
	"math/rand"
	"regexp"
	"strings"
	"testing"

	"tribune/api"
	"tribune/tribune"
)

// writer makes texts by the grammar: tokens as they are to be printed, and the greatest depth.
type writer struct {
	*rand.Rand
	tokens []string
	deep   int
}

func (w *writer) add(tokens ...string) { w.tokens = append(w.tokens, tokens...) }

func (w *writer) list(part func()) {
	for part(); w.Intn(3) == 0; part() {
		w.add(",")
	}
}

func (w *writer) name() string {
	return []string{"a", "b", "x", "log", "sixlet", "i"}[w.Intn(6)]
}

func (w *writer) column() { w.add(w.name(), ".", w.name()) }

func (w *writer) source() { w.add(w.name(), w.name()) }

func (w *writer) expr(depth int) {
	w.deep = max(w.deep, depth)
	switch n := w.Intn(8 + depth); n {
	case 0, 1:
		w.add("(")
		w.expr(depth + 1)
		w.add([]string{"+", "-", "*"}[w.Intn(3)])
		w.expr(depth + 1)
		w.add(")")
	case 2:
		w.add([]string{"count", "sum", "min", "max"}[w.Intn(4)], "(")
		w.expr(depth + 1)
		w.add(")")
	case 3:
		w.add("count", "(", "*", ")")
	case 4, 5:
		w.column()
	default:
		w.add([]string{"0", "12", "1000000000000", "''", "'a1'", "null", "now"}[w.Intn(7)])
	}
}

func (w *writer) cond(depth int) {
	w.deep = max(w.deep, depth)
	switch w.Intn(6 + depth) {
	case 0, 1:
		w.add("(")
		w.cond(depth + 1)
		w.add([]string{"and", "or"}[w.Intn(2)])
		w.cond(depth + 1)
		w.add(")")
	case 2:
		w.add("not")
		w.cond(depth + 1)
	case 3:
		w.add("exists", "(")
		w.query(depth + 1)
		w.add(")")
	case 4:
		w.expr(depth + 1)
		w.add("is", "null")
	default:
		w.expr(depth + 1)
		w.add([]string{"=", "<", ">"}[w.Intn(3)])
		w.expr(depth + 1)
	}
}

func (w *writer) query(depth int) {
	w.deep = max(w.deep, depth)
	w.add("select")
	w.list(func() { w.expr(depth + 1) })
	w.add("from")
	w.list(w.source)
	if w.Intn(2) == 0 {
		w.add("where")
		w.cond(depth + 1)
	}
	if w.Intn(3) == 0 {
		w.add("group", "by")
		w.list(w.column)
	}
	if w.Intn(3) == 0 {
		w.add("having")
		w.cond(depth + 1)
	}
}

// text writes a new query or policy.
func (w *writer) text() {
	w.tokens, w.deep = nil, 0
	switch w.Intn(4) {
	case 0:
		w.add("ever")
	case 1:
		w.add("within", "5")
	}
	w.query(1)
}

// loose lays blanks between tokens where they must be, and some where they may be.
func (w *writer) loose() string {
	isLetter := func(s string, i int) bool { return s[i] >= 'a' && s[i] <= 'z' }
	text := ""
	for i, token := range w.tokens {
		if i > 0 {
			last := w.tokens[i-1]
			isOne := isLetter(last, len(last)-1) && isLetter(token, 0) || last == "-"
			if isOne || w.Intn(2) == 0 {
				text += " "
			}
		}
		text += token
	}
	return text
}

// strict writes tokens as P3 says, by taking blanks away.
func (w *writer) strict() string {
	text := strings.Join(w.tokens, " ")
	for _, c := range [][2]string{{"( ", "("}, {" )", ")"}, {" ,", ","}, {" . ", "."}, {"count (", "count("}, {"sum (", "sum("}, {"min (", "min("}, {"max (", "max("}} {
		text = strings.ReplaceAll(text, c[0], c[1])
	}
	return text
}

func TestPrintByGrammar(t *testing.T) {
	w := &writer{Rand: rand.New(rand.NewSource(1))}
	counts := map[api.Errno]int{}
	for range 20000 {
		w.text()
		text, want, errno := w.loose(), w.strict(), api.OK
		if len(text) > api.MaxText {
			want, errno = "", api.ErrText
		} else if w.deep > api.MaxDepth {
			want, errno = "", api.ErrDeep
		}
		printed(t, text, want, errno)
		counts[errno]++
	}
	if counts[api.OK] < 1000 || counts[api.ErrDeep] < 1000 {
		t.Errorf("too few texts of a kind: %v", counts)
	}
}

var codes = map[string]string{
	"select": "S", "from": "F", "where": "W", "group": "G", "by": "B", "having": "H", "and": "J", "or": "J", "not": "N", "is": "I",
	"null": "0", "exists": "X", "count": "C", "sum": "A", "min": "A", "max": "A", "now": "E", "within": "V", "ever": "Y",
	"0": "1", "5": "1", "12": "1", "1000000000000": "1", "''": "2", "'a1'": "2",
}

// Each rule is taken wherever it fits, until none fits: c is a cond, E an expr, L a column, Q a query.
var rules = []struct {
	pattern *regexp.Regexp
	by      string
}{
	{regexp.MustCompile(`n\.n`), "L"},
	{regexp.MustCompile(`C\(\*\)|[CA]\([L120E]\)|\([L120E][-+*][L120E]\)`), "E"},
	{regexp.MustCompile(`[L120E][=<>][L120E]|[L120E]I0|Nc|\(cJc\)`), "c"},
	{regexp.MustCompile(`X\(S[L120E](,[L120E])*Fnn(,nn)*(Wc)?(GBL(,L)*)?(Hc)?\)`), "c"},
	{regexp.MustCompile(`^(V1|Y)?S[L120E](,[L120E])*Fnn(,nn)*(Wc)?(GBL(,L)*)?(Hc)?$`), "Q"},
}

// isGrammatical tells by other means than the program's whether tokens are a query or a policy.
func isGrammatical(tokens []string) bool {
	text := ""
	for _, token := range tokens {
		switch code := codes[token]; {
		case code != "":
			text += code
		case token[0] >= 'a':
			text += "n"
		default:
			text += token
		}
	}
	for last := ""; last != text; {
		last = text
		for _, rule := range rules {
			text = rule.pattern.ReplaceAllString(text, rule.by)
		}
	}
	return text == "Q"
}

// spoil takes a token out, lays one in, or lets one stand for another.
func (w *writer) spoil() {
	all := strings.Fields("select from where group by having and or not is null exists count sum min max now within ever ( ) , . = < > + - * a b 0 5 ''")
	i, other := w.Intn(len(w.tokens)), all[w.Intn(len(all))]
	switch w.Intn(4) {
	case 0:
		w.tokens = append(w.tokens[:i], w.tokens[i+1:]...)
	case 1:
		w.tokens = append(w.tokens[:i+1], w.tokens[i:]...)
		w.tokens[i] = other
	case 2:
		w.tokens[i] = other
	default:
		j := w.Intn(len(w.tokens))
		w.tokens[i], w.tokens[j] = w.tokens[j], w.tokens[i]
	}
}

func TestPrintOfSpoiledTexts(t *testing.T) {
	w := &writer{Rand: rand.New(rand.NewSource(2))}
	counts := map[bool]int{}
	for range 20000 {
		w.text()
		for w.spoil(); w.Intn(3) == 0; {
			w.spoil()
		}
		text := strings.Join(w.tokens, " ")
		isRight := len(text) <= api.MaxText && isGrammatical(w.tokens)
		got, e := tribune.Print(text)
		if isRight != (e != api.ErrText) || (e == api.OK) != (got != "") || e == api.OK && got != w.strict() {
			t.Errorf("P3: Print(%q) = %q, %d, but that it is right is %t", text, got, e, isRight)
		}
		counts[isRight]++
	}
	if counts[true] < 500 || counts[false] < 500 {
		t.Errorf("too few texts of a kind: %v", counts)
	}
}
